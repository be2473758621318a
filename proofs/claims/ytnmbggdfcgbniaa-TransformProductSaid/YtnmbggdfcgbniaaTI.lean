/- The walk of the statement on the values of a polynomial. -/
import Derived.Test.YtnmbggdfcgbniaaTH
namespace Go.Proofs.Ytnmbggdfcgbniaa
open Go.RowKit Go.BigFrame
open Classical

/-- Not a small case: only the examples are looked at. -/
theorem small_awake {a : List Int} {n : Int} (h : ¬ smallB a n = true) : smallB a n = false := by simpa using h

set_option maxRecDepth 100000 in
set_option maxHeartbeats 8000000 in
theorem law_tevaluate (p s n : Int) [hU : U p] [hs : U s] (va : Value) (a : List Int) (w : World) (hla : Lst w va a) (hna : a.length ≤ 9223372036854775807) (hn0 : -9223372036854775808 ≤ n) (hn1 : n ≤ 9223372036854775807) :
    Calls Try.prog 5 #[.agg #[.int .u64 p, va, .int .u64 s, .int .i64 n]] w fun e w' => e = .returned (.bool true) ∧ Below w.heap.size w w' := by
  obtain ⟨a0, c0, rfl⟩ := hla.shape
  have HL := Lib.hid hla
  clear hla
  by_cases hsm : smallB a n = true
  · have hal : a.length ≤ 80 := by unfold smallB at hsm; simp at hsm; exact hsm.1
    have HS := Lib.hid hsm
    obtain ⟨x, hx⟩ : ∃ x, x = resE p a s n := ⟨_, rfl⟩
    obtain ⟨e1, he1⟩ : ∃ x, x = errE p a s n := ⟨_, rfl⟩
    have hxl : x.length ≤ 4096 := by rw [hx]; exact resE_short _ _ _ _
    have HX := Lib.hid (And.intro hx he1)
    clear hx he1 hsm
    go_enter Try.func5, Try.ntmps5
    go_upto_region 1 with fail
    refine name_world ?_
    intro W hW
    have d0 : W.cell? ⟨w.heap.size, 0, none⟩ = some (.int .u64 p) := by rw [hW]; go_simp
    have d1 : W.cell? ⟨w.heap.size, 1, none⟩ = some (.slice a0 a.length c0) := by rw [hW]; go_simp
    have d2 : W.cell? ⟨w.heap.size, 2, none⟩ = some (.int .u64 s) := by rw [hW]; go_simp
    have d3 : W.cell? ⟨w.heap.size, 3, none⟩ = some (.int .i64 n) := by rw [hW]; go_simp
    have hb : Below w.heap.size w W := by rw [hW]; exact Below.made (Nat.le_refl _) (Below.refl _ _) _
    have HB0 := Lib.hid hb
    clear hW hb
    go_wp2_with fail
    refine (awake4_u _).mono ?_
    rintro _ w1 ⟨rfl, hb1⟩
    replace d0 := Below.hold hb1 d0
    replace d1 := Below.hold hb1 d1
    replace d2 := Below.hold hb1 d2
    replace d3 := Below.hold hb1 d3
    have HB1 := Lib.hid (Below.next (Nat.le_refl _) HB0.out hb1)
    clear hb1
    go_wp2_with fail
    refine (small4_u p s n _ a _ ⟨_, _, rfl⟩ hna).mono ?_
    rintro _ w2 ⟨rfl, hb2⟩
    rw [HS.out]
    replace d0 := Below.hold hb2 d0
    replace d1 := Below.hold hb2 d1
    replace d2 := Below.hold hb2 d2
    replace d3 := Below.hold hb2 d3
    have HB2 := Lib.hid (Below.next (Nat.le_refl _) HB1.out hb2)
    clear hb2
    go_wp2_with fail
    refine (tEvaluate_p p s n _ a _ (HL.out.hold HB2.out) (by omega) hn0 hn1).mono ?_
    rintro _ w3 ⟨v3, rfl, hl3, hb3⟩
    rw [← HX.out.2]
    rw [← HX.out.1] at hl3
    replace d0 := Below.hold hb3 d0
    replace d1 := Below.hold hb3 d1
    replace d2 := Below.hold hb3 d2
    replace d3 := Below.hold hb3 d3
    have HB3 := Lib.hid (Below.next (Nat.le_refl _) HB2.out hb3)
    have HL3 := Lib.hid hl3
    clear hb3 hl3
    go_wp2_with fail
    refine (uEvaluate_u p s n _ a _ (HL.out.hold HB3.out) (by omega) hn0 hn1).mono ?_
    rintro _ w4 ⟨v4, rfl, hl4, hb4⟩
    rw [← HX.out.2]
    rw [← HX.out.1] at hl4
    have HB4 := Lib.hid (Below.next (Nat.le_refl _) HB3.out hb4)
    replace HL3 := Lib.hid (HL3.out.hold hb4)
    have HL4 := Lib.hid hl4.lst
    clear hb4 hl4 d0 d1 d2 d3
    go_wp2_with fail
    refine (uSame_u _ _ x x _ HL3.out HL4.out (by omega) (by omega)).mono ?_
    rintro _ w6 ⟨rfl, hb6⟩
    rw [decide_eq_true (rfl : x = x)]
    have HB6 := Lib.hid (Below.next (Nat.le_refl _) HB4.out hb6)
    clear hb6
    go_wp2
    go_ret
    exact ⟨by simp, HB6.out⟩
  · have hsm := small_awake hsm
    have HS := Lib.hid hsm
    clear hsm
    go_enter Try.func5, Try.ntmps5
    go_upto_region 1 with fail
    refine name_world ?_
    intro W hW
    have d0 : W.cell? ⟨w.heap.size, 0, none⟩ = some (.int .u64 p) := by rw [hW]; go_simp
    have d1 : W.cell? ⟨w.heap.size, 1, none⟩ = some (.slice a0 a.length c0) := by rw [hW]; go_simp
    have d2 : W.cell? ⟨w.heap.size, 2, none⟩ = some (.int .u64 s) := by rw [hW]; go_simp
    have d3 : W.cell? ⟨w.heap.size, 3, none⟩ = some (.int .i64 n) := by rw [hW]; go_simp
    have hb : Below w.heap.size w W := by rw [hW]; exact Below.made (Nat.le_refl _) (Below.refl _ _) _
    have HB0 := Lib.hid hb
    clear hW hb
    go_wp2_with fail
    refine (awake4_u _).mono ?_
    rintro _ w1 ⟨rfl, hb1⟩
    replace d0 := Below.hold hb1 d0
    replace d1 := Below.hold hb1 d1
    replace d2 := Below.hold hb1 d2
    replace d3 := Below.hold hb1 d3
    have HB1 := Lib.hid (Below.next (Nat.le_refl _) HB0.out hb1)
    clear hb1
    go_wp2_with fail
    refine (small4_u p s n _ a _ ⟨_, _, rfl⟩ hna).mono ?_
    rintro _ w2 ⟨rfl, hb2⟩
    rw [HS.out]
    have HB2 := Lib.hid (Below.next (Nat.le_refl _) HB1.out hb2)
    clear hb2 d0 d1 d2 d3
    go_wp2_with fail
    refine (awake4_u _).mono ?_
    rintro _ w3 ⟨rfl, hb3⟩
    have HB3 := Lib.hid (Below.next (Nat.le_refl _) HB2.out hb3)
    clear hb3
    go_wp2
    go_ret
    exact ⟨rfl, HB3.out⟩
end Go.Proofs.Ytnmbggdfcgbniaa
