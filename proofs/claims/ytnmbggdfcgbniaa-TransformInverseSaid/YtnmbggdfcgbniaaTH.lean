/- The walks of the statements on domains and on values. -/
import Derived.Test.YtnmbggdfcgbniaaTG
namespace Go.Proofs.Ytnmbggdfcgbniaa
open Go.RowKit Go.BigFrame
open Classical

theorem resD_short (p s n : Int) : (resD p s n).length ≤ 4096 := by
  unfold resD; split
  · rename_i h; have := (errD_zero.1 h).1.2; rw [domL_len]; omega
  · simp
theorem resE_short (p : Int) (a : List Int) (s n : Int) : (resE p a s n).length ≤ 4096 := by
  unfold resE; split
  · rename_i h
    have h0 : errD p s n = 0 := by
      unfold errE at h
      split at h
      · assumption
      · exact h
    have := (errD_zero.1 h0).1.2
    simp [evL]; omega
  · simp

set_option maxRecDepth 100000 in
set_option maxHeartbeats 8000000 in
theorem law_tdomain (p s n : Int) [hU : U p] [hs : U s] (hn0 : -9223372036854775808 ≤ n) (hn1 : n ≤ 9223372036854775807) (w : World) :
    Calls Try.prog 4 #[.int .u64 p, .int .u64 s, .int .i64 n] w fun e w' => e = .returned (.bool true) ∧ Below w.heap.size w w' := by
  by_cases hm : 64 < n ∧ n ≤ 4096
  · obtain ⟨h1, h2⟩ := hm
    have h1' : ¬ n ≤ 64 := by omega
    have hd1 : decide (64 < n) = true := decide_eq_true h1
    have hd2 : decide (n ≤ 4096) = true := decide_eq_true h2
    go_enter Try.func4, Try.ntmps4
    go_upto_region 2 with (go_at_call 10; refine (awake4_u _).mono ?_; rintro _ w1 ⟨rfl, hb1⟩)
    have HB := Lib.hid hb1
    clear hb1
    go_wp2_with (go_at_call 10; refine (awake4_u _).mono ?_; rintro _ w1 ⟨rfl, hb1⟩)
    go_ret
    exact ⟨rfl, Below.next (Nat.le_refl _) HB.out hb1⟩
  · have hor : n ≤ 64 ∨ (64 < n ∧ ¬ n ≤ 4096) := by omega
    clear hm
    obtain ⟨x, hx⟩ : ∃ x, x = resD p s n := ⟨_, rfl⟩
    obtain ⟨e1, he1⟩ : ∃ x, x = errD p s n := ⟨_, rfl⟩
    have hxl : x.length ≤ 4096 := by rw [hx]; exact resD_short _ _ _
    have HX := Lib.hid (And.intro hx he1)
    clear hx he1
    have key : (decide (64 < n) = false) ∨ (decide (64 < n) = true ∧ decide (n ≤ 4096) = false) := by
      rcases hor with h | ⟨h1, h2⟩
      · exact .inl (decide_eq_false (by omega))
      · exact .inr ⟨decide_eq_true h1, decide_eq_false h2⟩
    go_enter Try.func4, Try.ntmps4
    rcases hor with h | ⟨h1, h2⟩
    all_goals
      rcases key with k1 | ⟨k1, k2⟩
      all_goals
        first | (exfalso; simp at k1; omega) | skip
    all_goals
      go_wp2_with fail
      refine (awake4_u _).mono ?_
      rintro _ w1 ⟨rfl, hb1⟩
      have HB1 := Lib.hid hb1
      clear hb1
      go_wp2_with fail
      refine (tDomain_p p s n hn0 hn1 _).mono ?_
      rintro _ w2 ⟨v2, rfl, hl2, hb2⟩
      rw [← HX.out.2]
      rw [← HX.out.1] at hl2
      have HB2 := Lib.hid (Below.next (Nat.le_refl _) HB1.out hb2)
      have HL2 := Lib.hid hl2
      clear hb2 hl2
      go_wp2_with fail
      refine (uDomain_u p s n hn0 hn1 _).mono ?_
      rintro _ w3 ⟨v3, rfl, hl3, hb3⟩
      rw [← HX.out.2]
      rw [← HX.out.1] at hl3
      have HB3 := Lib.hid (Below.next (Nat.le_refl _) HB2.out hb3)
      replace HL2 := Lib.hid (HL2.out.hold hb3)
      have HL3 := Lib.hid hl3.lst
      clear hb3 hl3
      go_wp2_with fail
      refine (uSame_u _ _ x x _ HL2.out HL3.out (by omega) (by omega)).mono ?_
      rintro _ w6 ⟨rfl, hb6⟩
      rw [decide_eq_true (rfl : x = x)]
      have HB6 := Lib.hid (Below.next (Nat.le_refl _) HB3.out hb6)
      clear hb6
      go_wp2
      go_ret
      exact ⟨by simp, HB6.out⟩

/-- A case is small. -/
def smallB (a : List Int) (n : Int) : Bool := decide (a.length ≤ 80) && (decide (n ≤ 64) || decide (4096 < n))
set_option maxHeartbeats 2000000 in
theorem small4_u (p s n : Int) (v : Value) (a : List Int) (w : World) (hv : ∃ b c, v = .slice b a.length c) (ha : a.length ≤ 9223372036854775807) :
    Calls Try.prog 18 #[.agg #[.int .u64 p, v, .int .u64 s, .int .i64 n]] w fun e w' => e = .returned (.bool (smallB a n)) ∧ Below w.heap.size w w' := by
  obtain ⟨b, c, rfl⟩ := hv
  have i1 : (a.length : Int) ≤ 9223372036854775807 := by omega
  by_cases h1 : a.length ≤ 80
  · have d1 : decide (a.length ≤ 80) = true := decide_eq_true h1
    have j1 : (a.length : Int) ≤ 80 := by omega
    have k1 : decide ((a.length : Int) ≤ 80) = true := decide_eq_true j1
    by_cases h2 : n ≤ 64
    · have d2 : decide (n ≤ 64) = true := decide_eq_true h2
      have hs : smallB a n = true := by unfold smallB; rw [d1, d2]; rfl
      rw [hs]
      clear hs
      go_enter Try.func18, Try.ntmps18
      go_wp2
      go_ret
      exact ⟨rfl, Below.made (Nat.le_refl _) (Below.refl _ _) _⟩
    · have d2 : decide (n ≤ 64) = false := decide_eq_false h2
      have hs : smallB a n = decide (4096 < n) := by unfold smallB; rw [d1, d2]; rfl
      rw [hs]
      clear hs
      go_enter Try.func18, Try.ntmps18
      go_wp2
      go_ret
      exact ⟨rfl, Below.made (Nat.le_refl _) (Below.refl _ _) _⟩
  · have d1 : decide (a.length ≤ 80) = false := decide_eq_false h1
    have j1 : ¬ (a.length : Int) ≤ 80 := by omega
    have k1 : decide ((a.length : Int) ≤ 80) = false := decide_eq_false j1
    have hs : smallB a n = false := by unfold smallB; rw [d1]; rfl
    rw [hs]
    clear hs
    go_enter Try.func18, Try.ntmps18
    go_wp2
    go_ret
    exact ⟨rfl, Below.made (Nat.le_refl _) (Below.refl _ _) _⟩
end Go.Proofs.Ytnmbggdfcgbniaa
