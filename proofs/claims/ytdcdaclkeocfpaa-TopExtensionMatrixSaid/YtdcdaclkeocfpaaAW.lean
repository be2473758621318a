/- The examples of the first statements on top (05). -/
import Derived.Test.YtdcdaclkeocfpaaKQ
import Derived.Test.YtdcdaclkeocfpaaTQ
import Derived.Test.YtdcdaclkeocfpaaXX
namespace Go.Proofs.Ytdcdaclkeocfpaa
open Go.RowKit Go.BigFrame
open Classical

theorem ex_ev13 : ival 17 (Po.ev (pf 17 [1, 2]) (ph 17 13) ([1, 2] : List Int).length) = 10 := by decide +kernel
theorem ex_nm11 : nm 17 1 1 = 15 := by decide +kernel

set_option maxRecDepth 100000 in
set_option maxHeartbeats 8000000 in
theorem awake05_u (w : World) : Calls Try.prog 45 #[] w fun e w' => e = .returned (.bool true) ∧ Below w.heap.size w w' := by
  have u17 : U 17 := inferInstance
  have u13 : U 13 := ⟨by omega, by omega⟩
  have u1 : U 1 := inferInstance
  go_enter Try.func45, Try.ntmps45
  go_upto_region 2 with fail
  refine name_world ?_
  intro W hW
  have hb : Below w.heap.size w W := by rw [hW]; exact (Below.refl _ _).alloc (Nat.le_refl _) _
  have hf : W.cell? ⟨w.heap.size, 0, none⟩ = some (.int .u64 17) := by rw [hW]; go_simp
  clear hW
  go_wp2_with fail
  refine (tForward_p 17 _ [1, 2, 0, 0] _ (lit_of (w := W) rfl [1, 2, 0, 0] (by decide) (us_small (by decide)) rfl) (by decide)).mono ?_
  rintro _ w1 ⟨v1, rfl, hl1, hb1⟩
  rw [show errE 17 [1, 2, 0, 0] 1 (([1, 2, 0, 0] : List Int).length : Int) = 0 from ex_errE]
  rw [show resE 17 [1, 2, 0, 0] 1 (([1, 2, 0, 0] : List Int).length : Int) = [3, 10, 16, 9] from ex_resE] at hl1
  have hb1' := Below.next (Nat.le_refl _) (Below.made (Nat.le_refl _) (Below.refl W.heap.size W) _) hb1
  have f1 := Below.hold hb1' hf
  have HB1 := Lib.hid (Below.next (Nat.le_refl _) hb hb1')
  have HL1 := Lib.hid hl1
  clear hb1 hl1 hb1' hb hf
  go_wp2_with fail
  refine (rSame_b _ _ [3, 10, 16, 9] [3, 10, 16, 9] _ (HL1.out.over _) (lit_of (w := w1) rfl [3, 10, 16, 9] (by decide) (us_small (by decide)) rfl) (by decide) (by decide)).mono ?_
  rintro _ w2 ⟨rfl, hb2⟩
  rw [decide_eq_true (rfl : ([3, 10, 16, 9] : List Int) = [3, 10, 16, 9])]
  have hb2' := Below.next (Nat.le_refl _) (Below.made (Nat.le_refl _) (Below.refl w1.heap.size w1) _) hb2
  have f2 := Below.hold hb2' f1
  have HB2 := Lib.hid (Below.next (Nat.le_refl _) HB1.out hb2')
  clear hb2 hb2' f1
  go_wp2_with fail
  refine (oEval_any 17 13 _ [1, 2] _ (lit_of (w := w2) rfl [1, 2] (by decide) (us_small (by decide)) rfl) (by decide)).mono ?_
  rintro _ w3 ⟨rfl, hb3⟩
  rw [ex_ev13]
  have hb3' := Below.next (Nat.le_refl _) (Below.made (Nat.le_refl _) (Below.refl w2.heap.size w2) _) hb3
  have f3 := Below.hold hb3' f2
  have HB3 := Lib.hid (Below.next (Nat.le_refl _) HB2.out hb3')
  clear hb3 hb3' f2
  go_wp2_with fail
  refine (mDeterminant_p 17 _ exM _ (by have h := lit_two (w := w3) [2, 4] [1, 3] (by decide) (by decide) (us_lit (by decide)) (us_lit (by decide)); simp at h; exact h) (by decide) (by decide)).mono ?_
  rintro _ w4 ⟨rfl, hb4⟩
  rw [ex_det]
  have hb4' : Below w3.heap.size w3 w4 := Below.next (Nat.le_refl _) (Below.made (Nat.le_refl _) (Below.made (Nat.le_refl _) (Below.made (Nat.le_refl _) (Below.refl _ _) _) _) _) hb4
  have f4 := Below.hold hb4' f3
  have HB4 := Lib.hid (Below.next (Nat.le_refl _) HB3.out hb4')
  clear hb4 hb4' f3
  go_wp2_with fail
  refine (xNorm_u 17 1 1 _).mono ?_
  rintro _ w5 ⟨rfl, hb5⟩
  rw [ex_nm11]
  have HB5 := Lib.hid (Below.next (Nat.le_refl _) HB4.out hb5.b)
  clear hb5
  go_wp2_with fail
  go_ret
  exact ⟨rfl, HB5.out⟩
end Go.Proofs.Ytdcdaclkeocfpaa
