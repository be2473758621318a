/- The walk of the statement that interpolation restores a polynomial. -/
import Derived.Test.YtgdnkbigdggbaaaLP9
namespace Go.Proofs.Ytgdnkbigdggbaaa
open Go.RowKit Go.BigFrame

/-- The values of a polynomial at points. -/
def vals (p : Int) (a xs : List Int) : List Int := xs.map fun x => ival p (Po.ev (pf p a) (ph p x) a.length)
theorem vals_len (p : Int) (a xs : List Int) : (vals p a xs).length = xs.length := by simp [vals]
theorem vals_lag {p : Int} (hk : known p = true) {a xs : List Int} (h : (cut0 (a.map (rd p))).length ≤ xs.length) : Lag p xs (vals p a xs) xs.length (pf p a) := by
  have hd : Po.Deg (pf p a) xs.length := by
    rw [← (is_trim p a).pf hk]
    exact (pf_deg hk _).mono h
  refine ⟨hd, fun j hj _ => ?_, fun j hj h => absurd hj (by omega)⟩
  rw [getD_lt _ (by rw [vals_len]; exact hj)]
  simp only [vals, List.getElem_map]
  rw [ph_ival hk]
  rcases Nat.le_total a.length xs.length with h1 | h1
  · exact Po.ev_any (pf_deg hk a) h1 _
  · exact (Po.ev_any hd h1 _).symm

set_option maxRecDepth 100000 in
set_option maxHeartbeats 16000000 in
theorem law_prestores (p : Int) [hU : U p] (va0 vb0 : Value) (a xs : List Int) (w : World) (hla0 : Lst w va0 a) (hlb0 : Lst w vb0 xs) (hna : a.length ≤ 9223372036854775807) :
    Calls Try.prog 11 #[.int .u64 p, va0, vb0] w fun e w' => e = .returned (.bool true) ∧ Below w.heap.size w w' := by
  obtain ⟨a0, c0, rfl⟩ := hla0.shape
  obtain ⟨a1, c1, rfl⟩ := hlb0.shape
  have HL := Lib.hid hla0
  have HM := Lib.hid hlb0
  clear hla0 hlb0
  by_cases ht : xs.length ≤ 12
  · have hd2 : ¬ (12 : Int) < (xs.length : Int) := by omega
    by_cases hs : a.length ≤ 24
    · have hd : decide (a.length ≤ 24) = true := decide_eq_true hs
      go_enter Try.func11, Try.ntmps11
      go_wp2_with (first | (go_at_call 12; refine (awake3_u _).mono ?_; rintro _ w1 ⟨rfl, hb1⟩) | (go_at_call 13; refine (few3_u _ _ _ _ (by omega)).mono ?_; rintro _ _ ⟨rfl, rfl⟩))
      refine (rValid_any _ _).mono ?_
      rintro e w2 ⟨rfl, hb2⟩
      have HB := Lib.hid (Below.next (Nat.le_refl _) hb1 hb2.b)
      clear hb1 hb2
      cases hk : known p with
      | false =>
        clear hk
        go_wp2_with (first | (go_at_call 12; refine (awake3_u _).mono ?_; rintro _ w1 ⟨rfl, hb1⟩))
        go_ret
        exact ⟨rfl, Below.next (Nat.le_refl _) HB.out hb1⟩
      | true =>
        have HK := Lib.hid hk
        clear hk
        go_wp2_with fail
        refine (sDegree_u p _ a _ (HL.out.hold HB.out) (by omega)).mono ?_
        rintro _ w3 ⟨rfl, hb3⟩
        replace HB := Lib.hid (Below.next (Nat.le_refl _) HB.out hb3)
        clear hb3
        obtain ⟨n, hn⟩ : ∃ n, n = (cut0 (a.map (rd p))).length := ⟨_, rfl⟩
        rw [← hn]
        have HN := Lib.hid hn
        clear hn
        by_cases hdg : (xs.length : Int) ≤ (n : Int) - 1
        · go_wp2_with (first | (go_at_call 12; refine (awake3_u _).mono ?_; rintro _ w1 ⟨rfl, hb1⟩))
          go_ret
          exact ⟨rfl, Below.next (Nat.le_refl _) HB.out hb1⟩
        · have hnl : n ≤ xs.length := by omega
          go_wp2_with fail
          refine (sDifferent_u p _ xs _ (HM.out.hold HB.out) (by omega)).mono ?_
          rintro _ w4 ⟨rfl, hb4⟩
          replace HB := Lib.hid (Below.next (Nat.le_refl _) HB.out hb4)
          clear hb4
          cases hdf : diffB p xs with
          | false =>
            clear hdf
            go_wp2_with (first | (go_at_call 12; refine (awake3_u _).mono ?_; rintro _ w1 ⟨rfl, hb1⟩))
            go_ret
            exact ⟨rfl, Below.next (Nat.le_refl _) HB.out hb1⟩
          | true =>
            have HDF := Lib.hid hdf
            clear hdf
            go_upto_region 4 with fail
            refine name_world ?_
            intro W hW
            have hb : Below w.heap.size w W := by rw [hW]; exact Below.made (Nat.le_refl _) HB.out _
            have hf : W.cell? ⟨w4.heap.size, 0, none⟩ = some (.int .u64 p) := by rw [hW]; go_simp
            replace HB := Lib.hid hb
            replace HL := Lib.hid (HL.out.hold hb)
            replace HM := Lib.hid (HM.out.hold hb)
            clear hW hb
            go_wp2
            go_loopw [8, 49] (fun v iv wr => ∃ k : Nat, iv = .int .i64 k ∧ k ≤ xs.length ∧ Own wr W.heap.size v (vals p a (xs.take k)) ∧ Below W.heap.size W wr) (fun _ iv _ => xs.length - (intOf iv).toNat)
            case atStart => exact ⟨0, rfl, Nat.zero_le _, Own.nil _ _, Below.refl _ _⟩
            case round =>
              obtain ⟨k, rfl, hk, hown, hb⟩ := hrel
              have hf2 := Below.hold hb hf
              have HR := Lib.hid hb
              have HO := Lib.hid hown
              clear hb hown
              have i0 : (0 : Int) ≤ (k : Int) := by omega
              by_cases hlt : k < xs.length
              · obtain ⟨bx, ox, cx, e1, g1⟩ := (HM.out.hold HR.out).cells k hlt
                obtain ⟨rfl, rfl⟩ : a1 = some ⟨bx, ox, none⟩ ∧ c1 = cx := by simp at e1; exact e1
                have hu1 := HM.out.us xs[k] (List.getElem_mem _)
                have i1 : (k : Int) < (xs.length : Int) := by omega
                have hlen : (vals p a (xs.take k)).length = k := by rw [vals_len, List.length_take]; omega
                go_wp2_with (first
                  | (go_at_call 27; refine (oEval_u p xs[k] _ a _ (HL.out.hold HR.out) (by omega)).mono ?_; rintro _ w5 ⟨rfl, hb5⟩)
                  | (at_builtin; refine append_one rfl (.tmp 53) (.tmp 58) rfl W.heap.size _ _ rfl (HO.out.hold hb5) _ inferInstance rfl (by rw [hlen]; omega) (Nat.le_trans HR.out.size hb5.size) ?_; intro v' w' hown' hb'))
                refine ⟨⟨k + 1, by go_num, by omega, ?_, ?_⟩, by simp [intOf]; omega⟩
                · rw [take_snoc hlt]; unfold vals; rw [List.map_append]; exact hown'
                · exact (Below.next (Nat.le_refl _) HR.out hb5).trans hb'
              · obtain rfl : k = xs.length := by omega
                have hvl := vals_len p a xs
                have HY := Lib.hid (show Own _ W.heap.size _ (vals p a xs) by have := HO.out; rwa [List.take_length] at this)
                obtain ⟨ys, hys⟩ : ∃ ys, ys = vals p a xs := ⟨_, rfl⟩
                rw [← hys] at HY hvl
                have HV := Lib.hid (show Lag p xs ys xs.length (pf p a) by rw [hys]; exact vals_lag HK.out (by rw [← HN.out]; omega))
                clear hys HO
                go_wp2_with fail
                refine (oInterpolate_p p _ _ xs ys _ (HM.out.hold HR.out) HY.out.lst (by omega) (by omega)).mono ?_
                rintro _ w6 ⟨v6, r6, er, rfl, hl6, hb6, hcase⟩
                replace HR := Lib.hid (Below.next (Nat.le_refl _) HR.out hb6)
                have H6 := Lib.hid hl6
                clear hl6 hb6 hf2
                rcases hcase with ⟨h, _⟩ | ⟨_, h, _⟩ | ⟨-, -, -, rfl, F, hi, hlag⟩
                · exact absurd (HK.out.symm.trans h) (by simp)
                · exact absurd h (by rw [hvl, HDF.out]; simp)
                · have HF := Lib.hid (And.intro hi (lag_same HK.out HDF.out hlag HV.out))
                  have hn6 : r6.length ≤ 12 := hi.bound fun _ => (hlag.deg).mono ht
                  clear hi hlag
                  go_wp2_with fail
                  refine (sTrim_p p _ a _ (HL.out.hold HR.out) (by omega)).mono ?_
                  rintro _ w7 ⟨v7, r7, rfl, hown7, hi7, hb7⟩
                  replace HR := Lib.hid (Below.next (Nat.le_refl _) HR.out hb7)
                  have H7 := Lib.hid (And.intro (H6.out.hold hb7) (And.intro hown7.lst hi7))
                  clear hown7 hi7 hb7 H6
                  go_wp2_with fail
                  refine (same3_p H7.out.1 H7.out.2.1 HF.out.1 H7.out.2.2 (fun _ => HF.out.2) (by omega)).mono ?_
                  rintro _ w8 ⟨rfl, hb8⟩
                  replace HR := Lib.hid (Below.next (Nat.le_refl _) HR.out hb8)
                  clear hb8 H7
                  go_wp2
                  go_ret
                  exact ⟨by simp, Below.next (Nat.le_refl _) HB.out HR.out⟩
    · have hd : decide (a.length ≤ 24) = false := decide_eq_false hs
      go_enter Try.func11, Try.ntmps11
      go_upto_region 2 with (first | (go_at_call 12; refine (awake3_u _).mono ?_; rintro _ w1 ⟨rfl, hb1⟩) | (go_at_call 13; refine (few3_u _ _ _ _ (by omega)).mono ?_; rintro _ _ ⟨rfl, rfl⟩))
      have HB := Lib.hid hb1
      clear hb1
      go_wp2_with (first | (go_at_call 12; refine (awake3_u _).mono ?_; rintro _ w1 ⟨rfl, hb1⟩))
      go_ret
      exact ⟨rfl, Below.next (Nat.le_refl _) HB.out hb1⟩
  · have hd2 : (12 : Int) < (xs.length : Int) := by omega
    go_enter Try.func11, Try.ntmps11
    go_upto_region 2 with (first | (go_at_call 12; refine (awake3_u _).mono ?_; rintro _ w1 ⟨rfl, hb1⟩) | (go_at_call 13; refine (few3_u _ _ _ _ (by omega)).mono ?_; rintro _ _ ⟨rfl, rfl⟩))
    have HB := Lib.hid hb1
    clear hb1
    go_wp2_with (first | (go_at_call 12; refine (awake3_u _).mono ?_; rintro _ w1 ⟨rfl, hb1⟩))
    go_ret
    exact ⟨rfl, Below.next (Nat.le_refl _) HB.out hb1⟩
end Go.Proofs.Ytgdnkbigdggbaaa
