/- The walk of the examples. -/
import Derived.Test.YtgdnkbigdggbaaaLP2
import Derived.Deep.Cut
namespace Go.Proofs.Ytgdnkbigdggbaaa
open Go.RowKit Go.BigFrame

set_option maxHeartbeats 8000000 in
theorem awake3_u (w : World) : Calls Try.prog 12 #[] w fun e w' => e = .returned (.bool true) ∧ Below w.heap.size w w' := by
  have u17 : U 17 := inferInstance
  go_enter Try.func12, Try.ntmps12
  go_upto_region 2 with fail
  refine name_world ?_
  intro W hW
  have hb : Below w.heap.size w W := by rw [hW]; exact (Below.refl _ _).alloc (Nat.le_refl _) _
  have hf : W.cell? ⟨w.heap.size, 0, none⟩ = some (.int .u64 17) := by rw [hW]; go_simp
  clear hW
  go_wp2_with fail
  refine (oMul_p 17 _ _ [3, 1] [14, 1] _ ((lit2b W W.heap.size rfl 3 1).more (.cells #[.int .u64 14, .int .u64 1] 22)) (lit2b (W.alloc (.cells #[.int .u64 3, .int .u64 1] 22)) (W.heap.size + 1) (by simp) 14 1) (by decide) (by decide)).mono ?_
  rintro _ w1 ⟨v1, r1, rfl, hl1, his1, hb1⟩
  have e1 : r1 = [8, 0, 1] := his1.same ex_mul fun _ => rfl
  subst e1
  have hm1 := (((Below.refl _ _).alloc (Nat.le_refl _) (.cells #[.int .u64 3, .int .u64 1] 22)).alloc (by simp) (.cells #[.int .u64 14, .int .u64 1] 22) : Below W.heap.size W _)
  have HB1 := Lib.hid (Below.next (Nat.le_refl _) hm1 hb1)
  have f1 := Below.hold HB1.out hf
  have HL1 := Lib.hid hl1
  clear his1 hb1 hm1 hl1
  go_wp2_with fail
  refine (oDivMod_p 17 _ _ [8, 0, 1] [1, 1] _ (HL1.out.more (.cells #[.int .u64 1, .int .u64 1] 22)) (lit2b w1 w1.heap.size rfl 1 1) (by decide) (by decide)).mono ?_
  rintro _ w2 ⟨v2, v3, r2, r3, er, rfl, hl2, hl3, hb2, hd⟩
  obtain ⟨e2, e3, rfl⟩ := ex_quot hd
  subst e2 e3
  have HB2 := Lib.hid (Below.next (Nat.le_refl _) ((Below.refl _ _).alloc (Nat.le_refl _) (.cells #[.int .u64 1, .int .u64 1] 22)) hb2)
  have f2 := Below.hold HB2.out f1
  have HL2 := Lib.hid (And.intro hl2 hl3)
  have HL1b := Lib.hid (HL1.out.hold HB2.out)
  clear hb2 hd hl2 hl3 f1
  go_wp2_with fail
  refine (oInterpolate_p 17 _ _ [0, 1, 2] [1, 2, 5] _ ((lit3b w2 w2.heap.size rfl 0 1 2).more (.cells #[.int .u64 1, .int .u64 2, .int .u64 5] 22)) (lit3b (w2.alloc (.cells #[.int .u64 0, .int .u64 1, .int .u64 2] 22)) (w2.heap.size + 1) (by simp) 1 2 5) (by decide) (by decide)).mono ?_
  rintro _ w3 ⟨v4, r4, er, rfl, hl4, hb3, hi⟩
  obtain ⟨e4, rfl⟩ := ex_inter hi
  subst e4
  have HB3 := Lib.hid (Below.next (Nat.le_refl _) (((Below.refl _ _).alloc (Nat.le_refl _) (.cells #[.int .u64 0, .int .u64 1, .int .u64 2] 22)).alloc (by simp) (.cells #[.int .u64 1, .int .u64 2, .int .u64 5] 22) : Below w2.heap.size w2 _) hb3)
  have HL4 := Lib.hid hl4
  have HL2b := Lib.hid (And.intro (HL2.out.1.hold HB3.out) (HL2.out.2.hold HB3.out))
  have HL1c := Lib.hid (HL1b.out.hold HB3.out)
  clear hb3 hi hl4 f2
  go_wp2_with fail
  refine (same3_l _ _ [8, 0, 1] _ (HL1c.out.more _) (lit3b w3 w3.heap.size rfl 8 0 1) (by decide)).mono ?_
  rintro _ w4 ⟨rfl, hb4⟩
  have HB4 := Lib.hid (Below.next (Nat.le_refl _) ((Below.refl _ _).alloc (Nat.le_refl _) (.cells #[.int .u64 8, .int .u64 0, .int .u64 1] 22)) hb4)
  clear hb4
  go_wp2_with fail
  refine (same3_l _ _ [16, 1] _ ((HL2b.out.1.hold HB4.out).more _) (lit2b w4 w4.heap.size rfl 16 1) (by decide)).mono ?_
  rintro _ w5 ⟨rfl, hb5⟩
  have HB5 := Lib.hid (Below.next (Nat.le_refl _) HB4.out (Below.next (Nat.le_refl _) ((Below.refl _ _).alloc (Nat.le_refl _) (.cells #[.int .u64 16, .int .u64 1] 22)) hb5))
  clear hb5
  go_wp2_with fail
  refine (same3_l _ _ [9] _ ((HL2b.out.2.hold HB5.out).more _) (lit1b w5 w5.heap.size rfl 9) (by decide)).mono ?_
  rintro _ w6 ⟨rfl, hb6⟩
  have HB6 := Lib.hid (Below.next (Nat.le_refl _) HB5.out (Below.next (Nat.le_refl _) ((Below.refl _ _).alloc (Nat.le_refl _) (.cells #[.int .u64 9] 22)) hb6))
  clear hb6
  go_wp2_with fail
  refine (same3_l _ _ [1, 0, 1] _ ((HL4.out.hold HB6.out).more _) (lit3b w6 w6.heap.size rfl 1 0 1) (by decide)).mono ?_
  rintro _ w7 ⟨rfl, hb7⟩
  have HB7 := Lib.hid (Below.next (Nat.le_refl _) HB6.out (Below.next (Nat.le_refl _) ((Below.refl _ _).alloc (Nat.le_refl _) (.cells #[.int .u64 1, .int .u64 0, .int .u64 1] 22)) hb7))
  have HBW := Lib.hid (Below.next (Nat.le_refl _) hb (Below.next (Nat.le_refl _) HB1.out (Below.next (Nat.le_refl _) HB2.out (Below.next (Nat.le_refl _) HB3.out HB7.out))))
  clear hb7
  go_wp2
  go_ret
  exact ⟨rfl, HBW.out⟩
end Go.Proofs.Ytgdnkbigdggbaaa
