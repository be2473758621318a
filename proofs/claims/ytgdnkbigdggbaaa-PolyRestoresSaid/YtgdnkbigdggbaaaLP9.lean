/- The walk of the statement on the vanishing polynomial. -/
import Derived.Test.YtgdnkbigdggbaaaLP8
namespace Go.Proofs.Ytgdnkbigdggbaaa
open Go.RowKit Go.BigFrame

theorem ival_nil0 {p : Int} (hk : known p = true) (z : Fin (Q p)) : ival p z = 0 ↔ z = 0 := by
  constructor
  · intro e; rw [← ph_ival hk z, e, ph_zero hk]
  · rintro rfl
    have := known_lo hk
    exact (ival_of (n := 0) (fun hk => ⟨⟨by omega, by omega⟩, ph_zero hk⟩) fun _ => rfl).symm
theorem sb_zero {p : Int} (hk : known p = true) (a b : Int) : sb p a b = 0 ↔ ph p b = ph p a := by
  rw [ph_eq hk, sb, if_pos hk]
  constructor
  · intro h; exact (Int.emod_eq_emod_iff_emod_sub_eq_zero.2 h).symm
  · intro h; exact Int.emod_eq_emod_iff_emod_sub_eq_zero.1 h.symm
theorem van_at {p : Int} (hk : known p = true) {l r : List Int} (h : Is p r (Po.van (l.map (ph p)))) (x : Int) :
    ival p (Po.ev (pf p r) (ph p x) r.length) = 0 ↔ ∃ j, j < l.length ∧ sb p x (l.getD j 0) = 0 := by
  rw [ival_nil0 hk, ev_long hk h (Po.van_deg _).1, Po.van_ev (fld hk) _ _ (one_ne hk), List.mem_map]
  constructor
  · rintro ⟨y, hy, e⟩
    obtain ⟨j, hj, rfl⟩ := List.getElem_of_mem hy
    exact ⟨j, hj, by rw [getD_lt _ hj, sb_zero hk]; exact e⟩
  · rintro ⟨j, hj, e⟩
    rw [getD_lt _ hj, sb_zero hk] at e
    exact ⟨_, List.getElem_mem hj, e⟩

set_option maxRecDepth 100000 in
set_option maxHeartbeats 16000000 in
theorem law_pvanish (p x : Int) [hU : U p] [hx : U x] (va0 : Value) (xs : List Int) (w : World) (hla0 : Lst w va0 xs) :
    Calls Try.prog 10 #[.int .u64 p, va0, .int .u64 x] w fun e w' => e = .returned (.bool true) ∧ Below w.heap.size w w' := by
  obtain ⟨a0, c0, rfl⟩ := hla0.shape
  have HL := Lib.hid hla0
  clear hla0
  by_cases hs : xs.length ≤ 16
  · have hd : ¬ (16 : Int) < (xs.length : Int) := by omega
    go_enter Try.func10, Try.ntmps10
    go_upto_region 4 with (first | (go_at_call 12; refine (awake3_u _).mono ?_; rintro _ w1 ⟨rfl, hb1⟩))
    refine name_world ?_
    intro W hW
    have hb : Below w.heap.size w W := by rw [hW]; exact Below.made (Nat.le_refl _) hb1 _
    have hf : W.cell? ⟨w1.heap.size, 0, none⟩ = some (.int .u64 p) := by rw [hW]; go_simp
    have HB := Lib.hid hb
    clear hW hb hb1
    go_wp2_with fail
    refine (oVanishing_p p _ xs _ (HL.out.hold HB.out) (by omega)).mono ?_
    rintro _ wa ⟨v1, r1, rfl, hl1, hi1, hba⟩
    replace hf := Below.hold hba hf
    replace HB := Lib.hid (Below.next (Nat.le_refl _) HB.out hba)
    have hn1 : r1.length ≤ 17 := by have := van_len hi1; rw [List.length_map] at this; omega
    obtain ⟨a2, c2, rfl⟩ := hl1.shape
    have HQ := Lib.hid hl1
    have HI := Lib.hid hi1
    clear hba hl1 hi1
    go_wp2_with fail
    refine (sVanishing_p p _ xs _ (HL.out.hold HB.out) (by omega)).mono ?_
    rintro _ w2 ⟨v2, r2, rfl, hown2, hi2, hb2⟩
    replace hf := Below.hold hb2 hf
    replace HB := Lib.hid (Below.next (Nat.le_refl _) HB.out hb2)
    have H2 := Lib.hid (And.intro (HQ.out.hold hb2) (And.intro hown2.lst hi2))
    clear hb2 hown2 hi2 HQ
    go_wp2_with fail
    refine (same3_p H2.out.1 H2.out.2.1 HI.out H2.out.2.2 (fun _ => rfl) (by omega)).mono ?_
    rintro _ w3 ⟨rfl, hb3⟩
    replace hf := Below.hold hb3 hf
    replace HB := Lib.hid (Below.next (Nat.le_refl _) HB.out hb3)
    have HQ := Lib.hid (H2.out.1.hold hb3)
    clear hb3 H2
    go_wp2_with fail
    refine (rValid_any _ _).mono ?_
    rintro e w4 ⟨rfl, hb4⟩
    replace hb4 := hb4.b
    replace hf := Below.hold hb4 hf
    replace HB := Lib.hid (Below.next (Nat.le_refl _) HB.out hb4)
    replace HQ := Lib.hid (HQ.out.hold hb4)
    clear hb4
    cases hk : known p with
    | false =>
      have l1 : r1.length = 0 := by rw [HI.out.nil hk]; rfl
      clear hk
      go_wp2
      go_ret
      exact ⟨rfl, HB.out⟩
    | true =>
      have HK := Lib.hid hk
      clear hk
      replace HL := Lib.hid (HL.out.hold HB.out)
      go_wp2
      go_loopw [9, 39] (fun fv iv wr => ∃ (k : Nat) (fb : Bool), iv = .int .i64 k ∧ fv = .bool fb ∧ k ≤ xs.length ∧ (fb = true ↔ ∃ j, j < k ∧ sb p x (xs.getD j 0) = 0) ∧ Below w4.heap.size w4 wr) (fun _ iv _ => xs.length - (intOf iv).toNat)
      case atStart => exact ⟨0, false, rfl, rfl, Nat.zero_le _, ⟨fun h => (by cases h), fun ⟨j, hj, _⟩ => by omega⟩, Below.refl _ _⟩
      case round =>
        obtain ⟨k, fb, rfl, rfl, hk, hfb, hb⟩ := hrel
        have hf2 := Below.hold hb hf
        have HR := Lib.hid hb
        have HF := Lib.hid hfb
        clear hb hfb
        have i0 : (0 : Int) ≤ (k : Int) := by omega
        by_cases hlt : k < xs.length
        · obtain ⟨bx, ox, cx, e1, g1⟩ := (HL.out.hold HR.out).cells k hlt
          obtain ⟨rfl, rfl⟩ : a0 = some ⟨bx, ox, none⟩ ∧ c0 = cx := by simp at e1; exact e1
          have hu1 := HL.out.us xs[k] (List.getElem_mem _)
          have i1 : (k : Int) < (xs.length : Int) := by omega
          have hgy : xs.getD k 0 = xs[k] := getD_lt _ hlt
          cases fb with
          | true =>
            have hnew : (true = true ↔ ∃ j, j < k + 1 ∧ sb p x (xs.getD j 0) = 0) := ⟨fun _ => by obtain ⟨j, hj, e⟩ := HF.out.1 rfl; exact ⟨j, by omega, e⟩, fun _ => rfl⟩
            have HNEW := Lib.hid hnew
            clear hnew hgy
            go_wp2
            exact ⟨⟨k + 1, true, by go_num, rfl, by omega, HNEW.out, HR.out⟩, by simp [intOf]; omega⟩
          | false =>
            have hnew : (decide (sb p x xs[k] = 0) = true ↔ ∃ j, j < k + 1 ∧ sb p x (xs.getD j 0) = 0) := by
              rw [decide_eq_true_iff]
              constructor
              · intro h; exact ⟨k, by omega, by rw [hgy]; exact h⟩
              · rintro ⟨j, hj, e⟩
                by_cases hjk : j = k
                · rw [← hgy, ← hjk]; exact e
                · exact absurd (HF.out.2 ⟨j, by omega, e⟩) (by simp)
            have HNEW := Lib.hid hnew
            clear hnew hgy
            go_wp2_with fail
            refine (rSub_u p x _ _).mono ?_
            rintro _ w5 ⟨rfl, hb5⟩
            replace HR := Lib.hid (Below.next (Nat.le_refl _) HR.out hb5.b)
            clear hb5 g1
            go_wp2
            exact ⟨⟨k + 1, decide (sb p x xs[k] = 0), by go_num, by simp; rfl, by omega, HNEW.out, HR.out⟩, by simp [intOf]; omega⟩
        · obtain rfl : k = xs.length := by omega
          have hval : decide (ival p (Po.ev (pf p r1) (ph p x) r1.length) = 0) = fb := by
            have h1 := van_at HK.out HI.out x
            cases fb with
            | true => exact decide_eq_true (h1.2 (HF.out.1 rfl))
            | false => exact decide_eq_false fun h => by have := HF.out.2 (h1.1 h); cases this
          have HV := Lib.hid hval
          clear hval
          go_wp2_with fail
          refine (oEval_u p x _ r1 _ (HQ.out.hold HR.out) (by omega)).mono ?_
          rintro _ w5 ⟨rfl, hb5⟩
          replace HB := Lib.hid (Below.next (Nat.le_refl _) HB.out (Below.next (Nat.le_refl _) HR.out hb5))
          clear hb5
          go_wp2
          go_ret
          exact ⟨by simp; exact HV.out, HB.out⟩
  · have hd : (16 : Int) < (xs.length : Int) := by omega
    go_enter Try.func10, Try.ntmps10
    go_upto_region 2 with (first | (go_at_call 12; refine (awake3_u _).mono ?_; rintro _ w1 ⟨rfl, hb1⟩) | (go_at_call 13; refine (few3_u _ _ _ _ (by omega)).mono ?_; rintro _ _ ⟨rfl, rfl⟩))
    have HB := Lib.hid hb1
    clear hb1
    go_wp2_with (first | (go_at_call 12; refine (awake3_u _).mono ?_; rintro _ w1 ⟨rfl, hb1⟩))
    go_ret
    exact ⟨rfl, Below.next (Nat.le_refl _) HB.out hb1⟩
end Go.Proofs.Ytgdnkbigdggbaaa
