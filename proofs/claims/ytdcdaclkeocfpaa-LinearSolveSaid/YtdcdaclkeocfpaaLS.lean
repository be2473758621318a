/- The walk of the statement on Solve. -/
import Derived.Test.YtdcdaclkeocfpaaKQ
namespace Go.Proofs.Ytdcdaclkeocfpaa
open Go.RowKit Go.BigFrame
open Classical

theorem SolOf.len {p : Int} {M : List (List Int)} {V X : List Int} {fb : Bool} (h : SolOf p M V fb X) : X.length ≤ 64 := by
  by_cases hb : OkM p M ∧ V.length = M.length
  · obtain ⟨R, c, _, ⟨_, _, rfl⟩ | ⟨_, rfl, _⟩⟩ := h.good hb.1 hb.2
    · rw [sx_len]; exact hb.1.2.cols
    · simp
  · rw [(h.bad hb).2]; simp

set_option maxRecDepth 100000 in
set_option maxHeartbeats 8000000 in
theorem law_jsolve (p : Int) [hU : U p] (v va : Value) (M : List (List Int)) (V : List Int) (w : World) (hM : MatR w v M) (hV : Lst w va V) (hn : M.length ≤ 9223372036854775807) (hr : ∀ i (h : i < M.length), M[i].length ≤ 9223372036854775807) (hv : V.length ≤ 9223372036854775807) :
    Calls Try.prog 4 #[.int .u64 p, v, va] w fun e w' => e = .returned (.bool true) ∧ Below w.heap.size w w' := by
  obtain ⟨a1, c1, rfl⟩ := hV.shape
  have HM := Lib.hid (And.intro hM (And.intro hr hV))
  clear hM hr hV
  have i1 : (V.length : Int) ≤ 9223372036854775807 := by omega
  by_cases hs : Sml M 12
  · obtain ⟨b1, b2⟩ := hs.rows (m := 100) (by decide)
    obtain ⟨b3, b4⟩ := hs.rows (m := 100000) (by decide)
    have HS := Lib.hid (And.intro (decide_eq_true hs) (And.intro b2 b4))
    clear hs b2 b4
    by_cases hl : V.length ≤ 12
    · have i2 : decide ((12 : Int) < (V.length : Int)) = false := by simp; omega
      go_enter Try.func4, Try.ntmps4
      go_upto_region 3 with (first
        | (go_at_call 16; refine (awake5_u _).mono ?_; rintro _ w1 ⟨rfl, hb1⟩)
        | (go_at_call 17; refine (small5_u v M _ (HM.out.1.hold hb1) hn HM.out.2.1).mono ?_; rintro e w2 ⟨rfl, rfl⟩; rw [HS.out.1]))
      have HB := Lib.hid hb1
      clear hb1
      go_upto_region 4 with (first
        | (go_at_call 19; refine (cp5_u v M _ (HM.out.1.hold HB.out) b3 HS.out.2.2).mono ?_; rintro _ w3 ⟨v3, rs, rfl, hown, hb3⟩)
        | (at_builtin; refine append_all rfl (.tmp 29) (.tmp 30) rfl w3.heap.size _ [] rfl (empty_own _ _ (Nat.le_refl _)) _ V rfl (((HM.out.2.2.hold HB.out).hold hb3).hold (Below.made (Nat.le_refl _) (Below.refl _ _) _)) (by simp) (by omega) (by simp) ?_; intro v4 w4 hown4 hb4; have hb34 : Below w3.heap.size w3 w4 := Below.trans (Below.made (Nat.le_refl _) (Below.refl _ _) _) hb4)
        | (go_at_call 23; refine (mSolve_p p v3 v4 M V _ (hown.matR.hold hb34) hown4.lst b1 HS.out.2.1 (by omega)).mono ?_; rintro _ w5 ⟨v5, fb, X, rfl, hX, hsol, hb5⟩))
      have HX := Lib.hid (And.intro hX (And.intro hsol (Below.next (Nat.le_refl _) (Below.next (Nat.le_refl _) (Below.next (Nat.le_refl _) HB.out hb3) hb34) hb5)))
      clear hX hsol hb3 hb34 hb4 hb5 hown hown4
      go_upto_region 5 with (go_at_call 24; refine (kSolve_u p v _ M V _ (HM.out.1.hold HX.out.2.2) (HM.out.2.2.hold HX.out.2.2) b3 HS.out.2.2 (by omega)).mono ?_; rintro _ w6 ⟨v6, fb2, Y, rfl, hY, hsol2, hb6⟩)
      obtain ⟨rfl, rfl⟩ := HX.out.2.1.unique hsol2
      have hXl := hsol2.len
      have HY := Lib.hid (And.intro hY.lst hb6)
      clear hY hsol2 hb6
      cases fb
      all_goals
        go_wp2_with (go_at_call 25; refine (rSame_b _ _ X X _ (HX.out.1.hold HY.out.2) HY.out.1 (by omega) (by omega)).mono ?_; rintro _ w7 ⟨rfl, hb7⟩; rw [decide_eq_true (rfl : X = X)])
        go_ret
        exact ⟨rfl, Below.next (Nat.le_refl _) (Below.next (Nat.le_refl _) HX.out.2.2 HY.out.2) (by first | exact hb7 | exact hb7.b)⟩
    · have i2 : decide ((12 : Int) < (V.length : Int)) = true := by simp; omega
      go_enter Try.func4, Try.ntmps4
      go_upto_region 2 with (first
        | (go_at_call 16; refine (awake5_u _).mono ?_; rintro _ w1 ⟨rfl, hb1⟩)
        | (go_at_call 17; refine (small5_u v M _ (HM.out.1.hold hb1) hn HM.out.2.1).mono ?_; rintro e w2 ⟨rfl, rfl⟩; rw [HS.out.1]))
      have HB := Lib.hid hb1
      clear hb1
      go_wp2_with (go_at_call 16; refine (awake5_u _).mono ?_; rintro _ w3 ⟨rfl, hb3⟩)
      go_ret
      exact ⟨rfl, Below.next (Nat.le_refl _) HB.out hb3⟩
  · have HS := Lib.hid (decide_eq_false hs)
    clear hs
    go_enter Try.func4, Try.ntmps4
    go_upto_region 2 with (first
      | (go_at_call 16; refine (awake5_u _).mono ?_; rintro _ w1 ⟨rfl, hb1⟩)
      | (go_at_call 17; refine (small5_u v M _ (HM.out.1.hold hb1) hn HM.out.2.1).mono ?_; rintro e w2 ⟨rfl, rfl⟩; rw [HS.out]))
    have HB := Lib.hid hb1
    clear hb1
    go_wp2_with (go_at_call 16; refine (awake5_u _).mono ?_; rintro _ w3 ⟨rfl, hb3⟩)
    go_ret
    exact ⟨rfl, Below.next (Nat.le_refl _) HB.out hb3⟩
end Go.Proofs.Ytdcdaclkeocfpaa
