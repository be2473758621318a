/- The walk of the statement on the three interpolations. -/
import Derived.Test.YtdcdaclkeocfpaaVM
import Derived.Test.YtdcdaclkeocfpaaOQ
namespace Go.Proofs.Ytdcdaclkeocfpaa
open Go.RowKit Go.BigFrame
open Classical

theorem domL_getD {p s : Int} {n i : Nat} (h : i < n) : (domL p s n).getD i 0 = ival p (dpt p s n i) := by
  rw [getD_lt _ (by rw [domL_len]; simpa using h)]; simp [domL]
theorem dpt_inj {p s : Int} {n : Nat} (h : errD p s n = 0) {i k : Nat} (hi : i < n) (hk : k < n) (e : dpt p s n i = dpt p s n k) : i = k := by
  have hkn := (errD_zero.1 h).1.1.1
  apply Classical.byContradiction
  intro hne
  have e1 := intL_ev (p := p) (s := s) (v := unitL n i) (by rw [unitL_len]; exact h) (k := i) (by rw [unitL_len]; exact hi)
  have e2 := intL_ev (p := p) (s := s) (v := unitL n i) (by rw [unitL_len]; exact h) (k := k) (by rw [unitL_len]; exact hk)
  simp only [unitL_len] at e1 e2
  rw [e, e2] at e1
  simp only [unitL, List.getElem_set, List.getElem_replicate, if_true, if_neg hne] at e1
  rw [ph_zero hkn, ph_one hkn] at e1
  exact one_nz hkn e1.symm
theorem dom_diff {p s : Int} {n : Nat} (h : errD p s n = 0) : diffB p (domL p s n) = true := by
  have hk := (errD_zero.1 h).1.1.1
  refine diff_yes fun i hi k hki e => ?_
  rw [domL_len, Int.toNat_natCast] at hi
  have e1 := ph_sb hk ((domL p s n).getD i 0) ((domL p s n).getD k 0)
  rw [e, ph_zero hk, domL_getD hi, domL_getD (by omega), ph_ival hk, ph_ival hk] at e1
  have e2 : dpt p s n i = dpt p s n k := by grind
  have := dpt_inj h hi (by omega) e2
  omega
theorem lag_int {p s : Int} {v : List Int} {F : Nat → Fin (Q p)} (h : errD p s v.length = 0) (hl : Lag p (domL p s v.length) v (domL p s v.length).length F) : F = pf p (intL p s v) := by
  obtain ⟨hlen, hs⟩ := errD_zero.1 h
  have hk := hlen.1.1
  have hprim := len_prim hlen
  have hdl : (domL p s v.length).length = v.length := by rw [domL_len]; simp
  rw [show ((v.length : Int)).toNat = v.length from Int.toNat_natCast _] at hprim
  refine Po.dom_unique (fld hk) hprim (shift_ne hk hs) (by have := hl.deg; rwa [hdl] at this) (by have := pf_deg hk (intL p s v); rwa [intL_len] at this) fun i hi => ?_
  have h1 := hl.hit i (by rw [hdl]; exact hi) (by rw [hdl]; exact hi)
  rw [← getD_lt _ (by rw [hdl]; exact hi), domL_getD hi, ph_ival hk, hdl, getD_lt _ hi] at h1
  have h2 := intL_ev h hi
  exact h1.trans h2.symm
theorem int_yes {p s : Int} {v r : List Int} {er : Int} (h : errD p s v.length = 0)
    (hc : (known p = false ∧ r = [] ∧ er = 7) ∨ (known p = true ∧ ((domL p s v.length).length ≠ v.length ∨ diffB p (domL p s v.length) = false) ∧ r = [] ∧ er = 1) ∨ (known p = true ∧ (domL p s v.length).length = v.length ∧ diffB p (domL p s v.length) = true ∧ er = 0 ∧ ∃ F, Is p r F ∧ Lag p (domL p s v.length) v (domL p s v.length).length F)) :
    er = 0 ∧ r = cut0 ((intL p s v).map (rd p)) := by
  have hk := (errD_zero.1 h).1.1.1
  have hdl : (domL p s v.length).length = v.length := by rw [domL_len]; simp
  rcases hc with ⟨e, _⟩ | ⟨_, e | e, _⟩ | ⟨_, _, _, e, F, hF, hl⟩
  · rw [hk] at e; cases e
  · exact absurd hdl e
  · rw [dom_diff h] at e; cases e
  · exact ⟨e, hF.same (is_trim p (intL p s v)) fun _ => lag_int h hl⟩
/-- The coefficients that Solve finds. -/
theorem sol_int {p s : Int} {v X : List Int} {fb : Bool} (h : errD p s v.length = 0) (h64 : v.length ≤ 64) (hs : SolOf p (vanM p v.length (domL p s v.length)) v fb X) : fb = true ∧ X = intL p s v := by
  obtain ⟨h1, h2, h3⟩ := van_ok h h64
  have hk := h1.1
  have hlen := h3.symm
  have hm : 0 < (vanM p v.length (domL p s v.length)).length := by rw [h3]; exact dom_pos h
  cases fb with
  | false =>
    refine absurd (fun i hi => ?_) (hs.no h1 hlen (pf p (intL p s v)))
    rw [h3] at hi
    rw [h2, van_ap hk hi, intL_ev h hi, pf_el v hi]
  | true =>
    refine ⟨rfl, ?_⟩
    obtain ⟨-, -, hXl, hX⟩ := hs.yes
    rw [h2] at hXl hX
    rw [h3] at hX
    obtain ⟨R, c, he, g | g⟩ := hs.good h1 hlen
    · have hmt : Mt p (vanM p v.length (domL p s v.length)).length (cols (vanM p v.length (domL p s v.length)) + 1) R := by
        have g2 := he.mt
        rw [cols_wideL h1.2 hm, wideL_len] at g2; exact g2
      have hred : Rdc p X := by rw [g.2.2]; exact sx_red (known_lo hk) hmt c _
      refine same_values h hXl (intL_len p s v) hred (intL_red hk) fun k hkv => ?_
      rw [intL_ev h hkv, ← van_ap hk hkv, hX k hkv, pf_el v hkv]
    · exact absurd g.1 (by decide)

set_option maxRecDepth 100000 in
set_option maxHeartbeats 16000000 in
theorem law_jinterpolations (n0 : Int) (hn0 : 0 ≤ n0 ∧ n0 ≤ 255) (s : Int) [hUs : U s] (va : Value) (a : List Int) (w : World) (hA : Lst w va a) (hn : a.length ≤ 9223372036854775807) :
    Calls Try.prog 12 #[.int .u8 n0, .int .u64 s, va] w fun e w' => e = .returned (.bool true) ∧ Below w.heap.size w w' := by
  obtain ⟨a0, c0, rfl⟩ := hA.shape
  have HM := Lib.hid hA
  clear hA
  have hk := prime_known n0
  obtain ⟨p, hp⟩ : ∃ p, p = prime n0 := ⟨_, rfl⟩
  rw [← hp] at hk
  have HP := Lib.hid hp
  have HKn := Lib.hid hk
  have hU : U p := known_u hk
  clear hp hk
  go_enter Try.func12, Try.ntmps12
  go_upto_region 2 with (go_at_call 35; refine (rPrime_any n0 hn0.1 hn0.2 _).mono ?_; rintro _ w0 ⟨rfl, hb0⟩; rw [← HP.out])
  refine name_world ?_
  intro W hW
  have hf : W.cell? ⟨w0.heap.size, 0, none⟩ = some (.int .u64 p) := by rw [hW]; go_simp
  have hbW : Below w.heap.size w W := by rw [hW]; exact Below.made (Nat.le_refl _) hb0.b _
  have HBW := Lib.hid hbW
  clear hW hbW hb0
  by_cases hs : a.length ≤ 16
  · have i1 : ¬ (16 : Int) < (a.length : Int) := by omega
    have i2 : (0 : Int) ≤ (a.length : Int) := by omega
    go_upto_region 4 with (go_at_call 45; refine (awake05_u _).mono ?_; rintro _ w1 ⟨rfl, hb1⟩)
    have HB1 := Lib.hid (Below.next (Nat.le_refl _) HBW.out hb1)
    have hf1 := Below.hold hb1 hf
    clear hb1 hf
    by_cases hd : errD p s a.length = 0
    · have hD : resD p s a.length = domL p s a.length := by rw [resD, if_pos hd]
      have hDl : (domL p s a.length).length = a.length := by rw [domL_len]; simp
      have hI : resI p s a = intL p s a := by rw [resI, if_pos hd]
      have HD := Lib.hid (And.intro hd (And.intro hD (And.intro hDl hI)))
      clear hd hD hDl hI
      go_upto_region 5 with (go_at_call 46; refine (tDomain_p p s a.length (by omega) (by omega) _).mono ?_; rintro _ w2 ⟨v2, rfl, hl2, hb2⟩; rw [HD.out.1]; rw [HD.out.2.1] at hl2)
      have HB2 := Lib.hid (Below.next (Nat.le_refl _) HB1.out hb2)
      have hf2 := Below.hold hb2 hf1
      have HL2 := Lib.hid hl2
      clear hb2 hf1 hl2
      go_upto_region 8 with (go_at_call 47; refine (tInterpolate_p p s _ a _ (HM.out.hold HB2.out) (by omega)).mono ?_; rintro _ w3 ⟨v3, rfl, hl3, hb3⟩; rw [HD.out.1]; rw [HD.out.2.2.2] at hl3)
      have HB3 := Lib.hid (Below.next (Nat.le_refl _) HB2.out hb3)
      have hf3 := Below.hold hb3 hf2
      have HL3 := Lib.hid (And.intro hl3 (HL2.out.hold hb3))
      clear hb3 hf2 hl3
      go_upto_region 9 with (go_at_call 48; refine (oInterpolate_p p v2 _ (domL p s a.length) a _ HL3.out.2 (HM.out.hold HB3.out) (by rw [HD.out.2.2.1]; omega) (by omega)).mono ?_; rintro _ w4 ⟨v4, r, er, rfl, hl4, hb4, hc4⟩; obtain ⟨rfl, rfl⟩ := int_yes HD.out.1 hc4)
      have HB4 := Lib.hid (Below.next (Nat.le_refl _) HB3.out hb4)
      have hf4 := Below.hold hb4 hf3
      have HL4 := Lib.hid (And.intro hl4 (And.intro (HL3.out.1.hold hb4) (HL3.out.2.hold hb4)))
      clear hb4 hf3 hl4 hc4
      obtain ⟨M, hMe⟩ : ∃ M, M = vanM p a.length (domL p s a.length) := ⟨_, rfl⟩
      have hMl : M.length ≤ 100 := by rw [hMe, vanM_len, HD.out.2.2.1]; omega
      have hMr : ∀ i (h : i < M.length), M[i].length ≤ 100 := fun i h => by
        have e : M[i].length = a.length := by subst hMe; exact vanM_row _ _ _ h
        omega
      have HMr := Lib.hid (And.intro hMe hMr)
      clear hMe hMr
      have G0 := fun (w' : World) (h : Below w4.heap.size w4 w') => Below.hold h hf4
      have F := Below.refl w4.heap.size w4
      go_region_held3 (fun w' => Below w4.heap.size w4 w')
        (first | assumption | exact Below.drew (by assumption))
        (first
          | (go_at_call 49; refine (powers05_u p HKn.out v2 _ _ (HL4.out.2.2.hold (by assumption)) (by rw [HD.out.2.2.1]; omega)).mono ?_; rintro _ w6 ⟨v6, rfl, hM6, hb6⟩; rw [HD.out.2.2.1, ← HMr.out.1] at hM6; have hs6 : Below w4.heap.size w4 w6 := Below.next (Nat.le_refl _) (by assumption) hb6)
          | (go_at_call 23; refine (mSolve_p p v6 _ M a _ (hM6.hold (by repeat (first | exact Below.refl _ _ | refine Below.drew ?_))) (HM.out.hold (Below.next (Nat.le_refl _) HB4.out (by repeat (first | exact hs6 | refine Below.drew ?_)))) hMl HMr.out.2 (by omega)).mono ?_; rintro _ w7 ⟨v7, fb, X, rfl, hX, hsol, hb7⟩; have hs7 : Below w4.heap.size w4 w7 := Below.next (Nat.le_refl _) (by repeat (first | exact hs6 | refine Below.drew ?_)) hb7)
          | fail)
      all_goals
        rw [HMr.out.1] at hsol
        obtain ⟨rfl, rfl⟩ := sol_int HD.out.1 (by omega) hsol
        have hf7 := G0 _ hs7
        have HB7 := Lib.hid (Below.next (Nat.le_refl _) HB4.out hs7)
        have HL7 := Lib.hid (And.intro hX (And.intro (HL4.out.1.hold hs7) (HL4.out.2.1.hold hs7)))
        clear hX hsol hs6 hs7 hb6 hb7 hM6 G0 F hf4
        go_wp2_with (first
          | (go_at_call 25; (with_reducible show Calls _ _ #[v3, _] _ _); refine (rSame_b v3 v7 _ _ _ HL7.out.2.2 HL7.out.1 (by rw [intL_len]; omega) (by rw [intL_len]; omega)).mono ?_; rintro _ w8 ⟨rfl, hb8⟩; rw [decide_eq_true rfl]; have hf8 := Below.hold hb8 hf7)
          | (go_at_call 50; refine (oTrim_any p v3 _ _ (HL7.out.2.2.hold hb8) (by rw [intL_len]; omega)).mono ?_; rintro _ w9 ⟨v9, rfl, hl9, hb9⟩; have hb89 := Below.next (Nat.le_refl _) hb8 hb9)
          | (go_at_call 25; (with_reducible show Calls _ _ #[v9, _] _ _); refine (rSame_b v9 v4 _ _ _ hl9.lst (HL7.out.2.1.hold hb89) (by refine Nat.le_trans (cut0_len _) ?_; rw [List.length_map, intL_len]; omega) (by refine Nat.le_trans (cut0_len _) ?_; rw [List.length_map, intL_len]; omega)).mono ?_; rintro _ w10 ⟨rfl, hb10⟩; rw [decide_eq_true rfl])
          | fail)
        go_ret
        exact ⟨rfl, Below.next (Nat.le_refl _) HB7.out (Below.next (Nat.le_refl _) hb89 hb10)⟩
    · have hdn : (errD p s a.length != 0) = true := bne_iff_ne.2 hd
      have hbd : -9223372036854775808 ≤ errD p s a.length ∧ errD p s a.length ≤ 9223372036854775807 := by
        rcases errD_cases p s a.length with e | e | e <;> rw [e] <;> decide
      clear hd
      go_wp2_with (go_at_call 46; refine (tDomain_p p s a.length (by omega) (by omega) _).mono ?_; rintro _ w2 ⟨v2, rfl, hl2, hb2⟩)
      go_ret
      exact ⟨rfl, Below.next (Nat.le_refl _) HB1.out hb2⟩
  · have i1 : (16 : Int) < (a.length : Int) := by omega
    go_upto_region 3 with (go_at_call 45; refine (awake05_u _).mono ?_; rintro _ w1 ⟨rfl, hb1⟩)
    have HB1 := Lib.hid (Below.next (Nat.le_refl _) HBW.out hb1)
    clear hb1
    go_wp2_with (go_at_call 45; refine (awake05_u _).mono ?_; rintro _ w2 ⟨rfl, hb2⟩)
    go_ret
    exact ⟨rfl, Below.next (Nat.le_refl _) HB1.out hb2⟩
end Go.Proofs.Ytdcdaclkeocfpaa
