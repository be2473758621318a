/- The walk of the document's examples of stage 4. -/
import Derived.Test.YtnmbggdfcgbniaaTO
import Derived.Deep.DeepCutAuto
namespace Go.Proofs.Ytnmbggdfcgbniaa
open Go.RowKit Go.BigFrame
open Classical

set_option maxRecDepth 100000 in
set_option maxHeartbeats 8000000 in
theorem awake4_u (w : World) : Calls Try.prog 10 #[] w fun e w' => e = .returned (.bool true) ∧ Below w.heap.size w w' := by
  have u17 : U 17 := inferInstance
  have u3 : U 3 := inferInstance
  go_enter Try.func10, Try.ntmps10
  go_upto_region 2 with fail
  refine name_world ?_
  intro W hW
  have hb : Below w.heap.size w W := by rw [hW]; exact (Below.refl _ _).alloc (Nat.le_refl _) _
  have hf : W.cell? ⟨w.heap.size, 0, none⟩ = some (.int .u64 17) := by rw [hW]; go_simp
  clear hW
  go_wp2_with fail
  refine (tForward_p 17 _ [1, 2, 0, 0] _ (lit_of (w := W) rfl [1, 2, 0, 0] (by decide) (us_small (by decide)) rfl) (by decide)).mono ?_
  rintro _ w1 ⟨v1, rfl, hl1, hb1⟩
  rw [show errE 17 [1, 2, 0, 0] 1 (([1, 2, 0, 0] : List Int).length : Int) = 0 from ex_errE]
  rw [show resE 17 [1, 2, 0, 0] 1 (([1, 2, 0, 0] : List Int).length : Int) = [3, 10, 16, 9] from ex_resE] at hl1
  have HB1 := Lib.hid (Below.next (Nat.le_refl _) (Below.made (Nat.le_refl _) (Below.refl W.heap.size W) _) hb1)
  have f1 := Below.hold HB1.out hf
  have HL1 := Lib.hid hl1
  clear hb1 hl1
  go_wp2_with fail
  refine (tInverse_p 17 _ [3, 10, 16, 9] _ (lit_of (w := w1) rfl [3, 10, 16, 9] (by decide) (us_small (by decide)) rfl) (by decide)).mono ?_
  rintro _ w2 ⟨v2, rfl, hl2, hb2⟩
  rw [show errD 17 1 (([3, 10, 16, 9] : List Int).length : Int) = 0 from ex_errI]
  rw [ex_resI] at hl2
  have hb2' := Below.next (Nat.le_refl _) (Below.made (Nat.le_refl _) (Below.refl w1.heap.size w1) _) hb2
  have HB2 := Lib.hid (Below.next (Nat.le_refl _) HB1.out hb2')
  have f2 := Below.hold hb2' f1
  replace HL1 := Lib.hid (HL1.out.hold hb2')
  have HL2 := Lib.hid hl2
  clear hb2 hl2 hb2' f1
  go_wp2_with fail
  refine (tDomain_p 17 3 2 (by decide) (by decide) w2).mono ?_
  rintro _ w3 ⟨v3, rfl, hl3, hb3⟩
  rw [ex_errD]
  rw [ex_resD] at hl3
  have HB3 := Lib.hid (Below.next (Nat.le_refl _) HB2.out hb3)
  have f3 := Below.hold hb3 f2
  replace HL1 := Lib.hid (HL1.out.hold hb3)
  replace HL2 := Lib.hid (HL2.out.hold hb3)
  have HL3 := Lib.hid hl3
  clear hb3 hl3 f2
  go_wp2_with fail
  refine (tMultiply_p 17 _ _ [1, 2] [3, 1] _ ((lit_of (w := w3) rfl [1, 2] (by decide) (us_small (by decide)) rfl).over _) (lit_of (w := w3.alloc _) (by simp) [3, 1] (by decide) (us_small (by decide)) rfl) (by decide) (by decide)).mono ?_
  rintro _ w4 ⟨v4, rfl, hl4, hb4⟩
  rw [ex_errM]
  rw [ex_resM] at hl4
  have hb4' := Below.next (Nat.le_refl _) (Below.made (by simp) (Below.made (Nat.le_refl _) (Below.refl w3.heap.size w3) _) _) hb4
  have HB4 := Lib.hid (Below.next (Nat.le_refl _) HB3.out hb4')
  replace HL1 := Lib.hid (HL1.out.hold hb4')
  replace HL2 := Lib.hid (HL2.out.hold hb4')
  replace HL3 := Lib.hid (HL3.out.hold hb4')
  have HL4 := Lib.hid hl4
  clear hb4 hl4 hb4' f3
  go_wp2_with fail
  refine (uSame_u _ _ [3, 10, 16, 9] [3, 10, 16, 9] _ (HL1.out.over _) (lit_of (w := w4) rfl [3, 10, 16, 9] (by decide) (us_small (by decide)) rfl) (by decide) (by decide)).mono ?_
  rintro _ w5 ⟨rfl, hb5⟩
  rw [decide_eq_true (rfl : ([3, 10, 16, 9] : List Int) = [3, 10, 16, 9])]
  have hb5' := Below.next (Nat.le_refl _) (Below.made (Nat.le_refl _) (Below.refl w4.heap.size w4) _) hb5
  have HB5 := Lib.hid (Below.next (Nat.le_refl _) HB4.out hb5')
  replace HL2 := Lib.hid (HL2.out.hold hb5')
  replace HL3 := Lib.hid (HL3.out.hold hb5')
  replace HL4 := Lib.hid (HL4.out.hold hb5')
  clear hb5 hb5'
  go_wp2_with fail
  refine (uSame_u _ _ [1, 2, 0, 0] [1, 2, 0, 0] _ (HL2.out.over _) (lit_of (w := w5) rfl [1, 2, 0, 0] (by decide) (us_small (by decide)) rfl) (by decide) (by decide)).mono ?_
  rintro _ w6 ⟨rfl, hb6⟩
  rw [decide_eq_true (rfl : ([1, 2, 0, 0] : List Int) = [1, 2, 0, 0])]
  have hb6' := Below.next (Nat.le_refl _) (Below.made (Nat.le_refl _) (Below.refl w5.heap.size w5) _) hb6
  have HB6 := Lib.hid (Below.next (Nat.le_refl _) HB5.out hb6')
  replace HL3 := Lib.hid (HL3.out.hold hb6')
  replace HL4 := Lib.hid (HL4.out.hold hb6')
  clear hb6 hb6'
  go_wp2_with fail
  refine (uSame_u _ _ [3, 14] [3, 14] _ (HL3.out.over _) (lit_of (w := w6) rfl [3, 14] (by decide) (us_small (by decide)) rfl) (by decide) (by decide)).mono ?_
  rintro _ w7 ⟨rfl, hb7⟩
  rw [decide_eq_true (rfl : ([3, 14] : List Int) = [3, 14])]
  have hb7' := Below.next (Nat.le_refl _) (Below.made (Nat.le_refl _) (Below.refl w6.heap.size w6) _) hb7
  have HB7 := Lib.hid (Below.next (Nat.le_refl _) HB6.out hb7')
  replace HL4 := Lib.hid (HL4.out.hold hb7')
  clear hb7 hb7'
  go_wp2_with fail
  refine (uSame_u _ _ [3, 7, 2] [3, 7, 2] _ (HL4.out.over _) (lit_of (w := w7) rfl [3, 7, 2] (by decide) (us_small (by decide)) rfl) (by decide) (by decide)).mono ?_
  rintro _ w8 ⟨rfl, hb8⟩
  rw [decide_eq_true (rfl : ([3, 7, 2] : List Int) = [3, 7, 2])]
  have HB8 := Lib.hid (Below.next (Nat.le_refl _) hb (Below.next (Nat.le_refl _) HB7.out (Below.next (Nat.le_refl _) (Below.made (Nat.le_refl _) (Below.refl w7.heap.size w7) _) hb8)))
  clear hb8
  go_wp2
  go_ret
  exact ⟨rfl, HB8.out⟩
end Go.Proofs.Ytnmbggdfcgbniaa
