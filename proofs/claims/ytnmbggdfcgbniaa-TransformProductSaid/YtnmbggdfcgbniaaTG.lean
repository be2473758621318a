/- The walks of the statements on the transform, on domains. -/
import Derived.Test.YtnmbggdfcgbniaaTF
namespace Go.Proofs.Ytnmbggdfcgbniaa
open Go.RowKit Go.BigFrame
open Classical

theorem resE_len (p : Int) (a : List Int) (s : Int) (n : Nat) : (resE p a s n).length ≤ n := by
  unfold resE; split
  · rw [evL_len]; exact Nat.le_refl _
  · simp
theorem resI_len (p s : Int) (a : List Int) : (resI p s a).length ≤ a.length := by
  unfold resI; split
  · simp [intL]
  · simp
theorem resD_len (p s : Int) (n : Int) : (resD p s n).length ≤ n.toNat := by
  unfold resD; split
  · rw [domL_len]; exact Nat.le_refl _
  · simp

set_option maxRecDepth 100000 in
set_option maxHeartbeats 8000000 in
theorem law_tforward (p : Int) [hU : U p] (va : Value) (a : List Int) (w : World) (hla : Lst w va a) (hna : a.length ≤ 9223372036854775807) :
    Calls Try.prog 3 #[.int .u64 p, va] w fun e w' => e = .returned (.bool true) ∧ Below w.heap.size w w' := by
  obtain ⟨a0, c0, rfl⟩ := hla.shape
  have HL := Lib.hid hla
  clear hla
  have u1 : U 1 := inferInstance
  by_cases hs : a.length ≤ 64
  · have i1 : (a.length : Int) ≤ 64 := by omega
    obtain ⟨x, hx⟩ : ∃ x, x = resE p a 1 a.length := ⟨_, rfl⟩
    obtain ⟨e1, he1⟩ : ∃ x, x = errE p a 1 a.length := ⟨_, rfl⟩
    obtain ⟨y, hy⟩ : ∃ x, x = resI p 1 a := ⟨_, rfl⟩
    obtain ⟨e2, he2⟩ : ∃ x, x = errD p 1 a.length := ⟨_, rfl⟩
    have hxl : x.length ≤ 64 := by have := resE_len p a 1 a.length; rw [← hx] at this; omega
    have hyl : y.length ≤ 64 := by have := resI_len p 1 a; rw [← hy] at this; omega
    have HX := Lib.hid (And.intro hx (And.intro he1 (And.intro hy he2)))
    clear hx he1 hy he2
    go_enter Try.func3, Try.ntmps3
    go_wp2_with fail
    refine (awake4_u _).mono ?_
    rintro _ w1 ⟨rfl, hb1⟩
    have HB1 := Lib.hid hb1
    clear hb1
    go_wp2_with fail
    refine (tForward_p p _ a _ (HL.out.hold HB1.out) (by omega)).mono ?_
    rintro _ w2 ⟨v2, rfl, hl2, hb2⟩
    rw [← HX.out.2.1]
    rw [← HX.out.1] at hl2
    have HB2 := Lib.hid (Below.next (Nat.le_refl _) HB1.out hb2)
    have HL2 := Lib.hid hl2
    clear hb2 hl2
    go_wp2_with fail
    refine (uEvaluate_u p 1 _ _ a _ (HL.out.hold HB2.out) (by omega) (by omega) (by omega)).mono ?_
    rintro _ w3 ⟨v3, rfl, hl3, hb3⟩
    rw [← HX.out.2.1]
    rw [← HX.out.1] at hl3
    have HB3 := Lib.hid (Below.next (Nat.le_refl _) HB2.out hb3)
    replace HL2 := Lib.hid (HL2.out.hold hb3)
    have HL3 := Lib.hid hl3.lst
    clear hb3 hl3
    go_wp2_with fail
    refine (tInverse_p p _ a _ (HL.out.hold HB3.out) (by omega)).mono ?_
    rintro _ w4 ⟨v4, rfl, hl4, hb4⟩
    rw [← HX.out.2.2.2]
    rw [← HX.out.2.2.1] at hl4
    have HB4 := Lib.hid (Below.next (Nat.le_refl _) HB3.out hb4)
    replace HL2 := Lib.hid (HL2.out.hold hb4)
    replace HL3 := Lib.hid (HL3.out.hold hb4)
    have HL4 := Lib.hid hl4
    clear hb4 hl4
    go_wp2_with fail
    refine (uInterpolate_u p 1 _ a _ (HL.out.hold HB4.out) (by omega)).mono ?_
    rintro _ w5 ⟨v5, rfl, hl5, hb5⟩
    rw [← HX.out.2.2.2]
    rw [← HX.out.2.2.1] at hl5
    have HB5 := Lib.hid (Below.next (Nat.le_refl _) HB4.out hb5)
    replace HL2 := Lib.hid (HL2.out.hold hb5)
    replace HL3 := Lib.hid (HL3.out.hold hb5)
    replace HL4 := Lib.hid (HL4.out.hold hb5)
    have HL5 := Lib.hid hl5.lst
    clear hb5 hl5
    go_wp2_with fail
    refine (uSame_u _ _ x x _ HL2.out HL3.out (by omega) (by omega)).mono ?_
    rintro _ w6 ⟨rfl, hb6⟩
    rw [decide_eq_true (rfl : x = x)]
    have HB6 := Lib.hid (Below.next (Nat.le_refl _) HB5.out hb6)
    replace HL4 := Lib.hid (HL4.out.hold hb6)
    replace HL5 := Lib.hid (HL5.out.hold hb6)
    clear hb6
    go_wp2_with fail
    refine (uSame_u _ _ y y _ HL4.out HL5.out (by omega) (by omega)).mono ?_
    rintro _ w7 ⟨rfl, hb7⟩
    rw [decide_eq_true (rfl : y = y)]
    have HB7 := Lib.hid (Below.next (Nat.le_refl _) HB6.out hb7)
    clear hb7
    go_wp2
    go_ret
    exact ⟨by simp, HB7.out⟩
  · have i1 : ¬ (a.length : Int) ≤ 64 := by omega
    go_enter Try.func3, Try.ntmps3
    go_upto_region 2 with (go_at_call 10; refine (awake4_u _).mono ?_; rintro _ w1 ⟨rfl, hb1⟩)
    have HB := Lib.hid hb1
    clear hb1
    go_wp2_with (go_at_call 10; refine (awake4_u _).mono ?_; rintro _ w1 ⟨rfl, hb1⟩)
    go_ret
    exact ⟨rfl, Below.next (Nat.le_refl _) HB.out hb1⟩
end Go.Proofs.Ytnmbggdfcgbniaa
