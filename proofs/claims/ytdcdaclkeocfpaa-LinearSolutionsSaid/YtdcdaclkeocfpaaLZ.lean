/- The walk of the statement on solutions. -/
import Derived.Test.YtdcdaclkeocfpaaKQ
namespace Go.Proofs.Ytdcdaclkeocfpaa
open Go.RowKit Go.BigFrame
open Classical

theorem kerTo_pre (p : Int) (R : List (List Int)) (c : List Nat) (n : Nat) : ∀ d k, kerTo p R c n k <+: kerTo p R c n (k + d)
  | 0, k => List.prefix_refl _
  | d + 1, k => by
    refine (kerTo_pre p R c n d k).trans ?_
    rw [show k + (d + 1) = k + d + 1 by omega]
    by_cases h : c.contains (k + d) = true
    · rw [kerTo_piv h]; exact List.prefix_refl _
    · rw [kerTo_free (by simpa using h)]; exact List.prefix_append _ _
theorem kerTo_get {p : Int} {R : List (List Int)} {c : List Nat} {n j : Nat} (hj : j < n) (hc : c.contains j = false) :
    ∃ h : (kerTo p R c n j).length < (kerTo p R c n n).length, (kerTo p R c n n)[(kerTo p R c n j).length] = kx p R c n j c.length := by
  have h1 := kerTo_pre p R c n (n - (j + 1)) (j + 1)
  rw [show j + 1 + (n - (j + 1)) = n by omega, kerTo_free hc] at h1
  have hl := h1.length_le
  rw [List.length_append, List.length_singleton] at hl
  refine ⟨by omega, ?_⟩
  have h2 := h1.getElem (i := (kerTo p R c n j).length) (by rw [List.length_append, List.length_singleton]; omega)
  rw [← h2, List.getElem_append_right (Nat.le_refl _)]
  simp
theorem SolOf.is_yes {p : Int} {M : List (List Int)} {x X : List Int} {fb : Bool} (hok : OkM p M) (hx : x.length = cols M) (h : SolOf p M (apL p M x) fb X) : fb = true ∧ X.length = cols M := by
  have hlen := apL_len hok hx
  cases fb with
  | false => exact absurd (fun i hi => (pf_apL hok hx hi).symm) (h.no hok hlen (pf p x))
  | true => exact ⟨rfl, h.yes.2.2.1⟩

set_option maxRecDepth 100000 in
set_option maxHeartbeats 16000000 in
theorem law_jsolutions (n0 : Int) (hn0 : 0 ≤ n0 ∧ n0 ≤ 255) (v va : Value) (M : List (List Int)) (x : List Int) (w : World) (hM : MatR w v M) (hV : Lst w va x) (hn : M.length ≤ 9223372036854775807) (hr : ∀ i (h : i < M.length), M[i].length ≤ 9223372036854775807) (hv : x.length ≤ 9223372036854775807) :
    Calls Try.prog 10 #[.int .u8 n0, v, va] w fun e w' => e = .returned (.bool true) ∧ Below w.heap.size w w' := by
  obtain ⟨a0, c0, rfl⟩ := hM.shape
  obtain ⟨a1, c1, rfl⟩ := hV.shape
  have HM := Lib.hid (And.intro hM (And.intro hr hV))
  clear hM hr hV
  have hk := prime_known n0
  obtain ⟨p, hp⟩ : ∃ p, p = prime n0 := ⟨_, rfl⟩
  rw [← hp] at hk
  have HP := Lib.hid hp
  have HKn := Lib.hid hk
  have hU : U p := known_u hk
  have hpl := known_lo hk
  have hph := known_hi hk
  clear hp hk
  by_cases hs : Sml M 12
  · obtain ⟨b1, b2⟩ := hs.rows (m := 100) (by decide)
    obtain ⟨b3, b4⟩ := hs.rows (m := 100000) (by decide)
    have HS := Lib.hid (And.intro (decide_eq_true hs) (And.intro b2 b4))
    clear hs b2 b4
    by_cases hvd : Vld M
    · have HV := Lib.hid (decide_eq_true hvd)
      by_cases hx : x.length = cols M
      · have hne : ((x.length : Int) != (cols M : Int)) = false := by rw [hx]; simp
        have hc64 := hvd.cols
        have hx64 : x.length ≤ 64 := by omega
        have HK := Lib.hid (And.intro (show OkM p M from ⟨HKn.out, hvd⟩) hx)
        clear hvd hx
        go_enter Try.func10, Try.ntmps10
        go_upto_region 4 with (first
          | (go_at_call 35; refine (rPrime_any n0 hn0.1 hn0.2 _).mono ?_; rintro _ w0 ⟨rfl, hb0⟩; rw [← HP.out]; have hA0 := HM.out.1.hold hb0.b; have HM0 := Lib.hid (And.intro hA0 hb0.b); clear hA0 hb0)
          | (go_at_call 16; refine (awake5_u _).mono ?_; rintro _ w1 ⟨rfl, hb1⟩)
          | (go_at_call 17; refine (small5_u _ M _ (HM0.out.1.hold hb1) hn HM.out.2.1).mono ?_; rintro e w2 ⟨rfl, hw2⟩; obtain rfl : w1 = w2 := hw2.symm; rw [HS.out.1])
          | (go_at_call 40; refine (kValid_u _ M _ (HM0.out.1.hold hb1) b3 HS.out.2.2).mono ?_; rintro e w3 ⟨rfl, hb3⟩; rw [HV.out]; have g3 := Below.next (Nat.le_refl _) HM0.out.2 (Below.next (Nat.le_refl _) hb1 hb3.b))
          | (go_at_call 41; refine (kColumns_u _ M _ (HM.out.1.hold g3) (by omega)).mono ?_; rintro e w4 ⟨rfl, hw4⟩; obtain rfl : w3 = w4 := hw4.symm)
          | fail)
        have HB := Lib.hid g3
        clear g3 hb1 hb3 HM0
        go_upto_region 5 with fail
        refine name_world ?_
        intro W hW
        have hf : W.cell? ⟨w3.heap.size, 0, none⟩ = some (.int .u64 p) := by rw [hW]; go_simp
        have hbW : Below w.heap.size w W := by rw [hW]; exact Below.made (Nat.le_refl _) HB.out _
        have HBW := Lib.hid hbW
        clear hW hbW HB
        go_upto_region 6 with (go_at_call 28; refine (kApply_u p _ _ M x _ (HM.out.1.hold HBW.out) (HM.out.2.2.hold HBW.out) b3 HS.out.2.2 (by omega)).mono ?_; rintro _ w5 ⟨v5, rfl, hown5, hb5⟩)
        have hbl : (apL p M x).length ≤ 100 := apL_short p M x b1
        obtain ⟨bL, hbL⟩ : ∃ L, L = apL p M x := ⟨_, rfl⟩
        rw [← hbL] at hown5 hbl
        have HbL := Lib.hid hbL
        have hf5 := Below.hold hb5 hf
        have H5 := Lib.hid (And.intro hown5.lst (Below.next (Nat.le_refl _) HBW.out hb5))
        clear hbL hown5 hb5 hf
        have G0 := fun (w' : World) (h : Below w5.heap.size w5 w') => Below.hold h hf5
        have F := Below.refl w5.heap.size w5
        go_region_held3 (fun w' => Below w5.heap.size w5 w')
          (first | assumption | exact Below.drew (by assumption))
          (first
            | (go_at_call 19; refine (cp5_u _ M _ (HM.out.1.hold (Below.next (Nat.le_refl _) H5.out.2 (by assumption))) b3 HS.out.2.2).mono ?_; rintro _ w6 ⟨v6, rs6, rfl, hown6, hb6⟩; have hs6 : Below w5.heap.size w5 w6 := Below.next (Nat.le_refl _) (by assumption) hb6)
            | (go_at_call 23; refine (mSolve_p p v6 v5 M bL _ (hown6.matR.hold (by repeat (first | exact Below.refl _ _ | refine Below.drew ?_))) (H5.out.1.hold (by repeat (first | exact hs6 | refine Below.drew ?_))) b1 HS.out.2.1 hbl).mono ?_; rintro _ w7 ⟨v7, fb, X, rfl, hX, hsol, hb7⟩; have hs7 : Below w5.heap.size w5 w7 := Below.next (Nat.le_refl _) (by repeat (first | exact hs6 | refine Below.drew ?_)) hb7)
            | fail)
        all_goals
          rw [HbL.out] at hsol
          obtain ⟨rfl, hXl⟩ := hsol.is_yes HK.out.1 HK.out.2
          have hXx : X.length = x.length := by rw [hXl, HK.out.2]
          obtain ⟨a7, c7, e7⟩ := hX.shape
          rw [hXx] at e7
          subst e7
          have hf7 := G0 _ hs7
          have hne7 : ((x.length : Int) != (x.length : Int)) = false := by simp
          have H7 := Lib.hid (And.intro hX (And.intro hsol (And.intro hXl (Below.next (Nat.le_refl _) H5.out.2 hs7))))
          clear hX hsol hXl hXx hs6 hs7 hb6 hb7 hown6 G0 F hf5
          go_upto_region 9 with fail
          have G0 := fun (w' : World) (h : Below w7.heap.size w7 w') => Below.hold h hf7
          have F := Below.refl w7.heap.size w7
          go_region_held3 (fun w' => Below w7.heap.size w7 w')
            (first | assumption | exact Below.drew (by assumption))
            (first
              | (go_at_call 19; refine (cp5_u _ M _ (HM.out.1.hold (Below.next (Nat.le_refl _) H7.out.2.2.2 (by assumption))) b3 HS.out.2.2).mono ?_; rintro _ w8 ⟨v8, rs8, rfl, hown8, hb8⟩; have hs8 : Below w7.heap.size w7 w8 := Below.next (Nat.le_refl _) (by assumption) hb8)
              | (go_at_call 26; refine (mKernel_p p v8 M _ (hown8.matR.hold (by repeat (first | exact Below.refl _ _ | refine Below.drew ?_))) b1 HS.out.2.1).mono ?_; rintro _ w9 ⟨v9, R, c, rfl, hKr, hred, hb9⟩; have hs9 : Below w7.heap.size w7 w9 := Below.next (Nat.le_refl _) (by repeat (first | exact hs8 | refine Below.drew ?_)) hb9)
              | fail)
          all_goals
            obtain ⟨f1, f2, f3, f4, f5⟩ := hred.facts
            have hrr := hred.1 HK.out.1
            have hcR := hrr.cols
            obtain ⟨K, hK⟩ : ∃ K, K = kerTo p R c (cols R) (cols R) := ⟨_, rfl⟩
            rw [← hK] at hKr
            obtain ⟨a9, c9, rfl⟩ := hKr.shape
            have hKl : K.length ≤ 64 := by rw [hK]; exact Nat.le_trans (kerTo_len _ _ _ _ _) f1
            have hnx : x.length = cols R := by rw [hcR, HK.out.2]
            have H9 := Lib.hid (And.intro hKr (And.intro hred (And.intro (Below.next (Nat.le_refl _) H7.out.2.2.2 hs9) (And.intro (H7.out.1.hold hs9) (And.intro hK (And.intro hnx (And.intro hrr hcR)))))))
            clear hKr hred hs8 hs9 hb8 hb9 hown8 G0 F hf7 hK hnx hrr hcR f4 f5
            have i1 : (x.length : Int) ≤ 64 := by omega
            have i2 : (K.length : Int) ≤ 64 := by omega
            go_upto_region 13 with (first
              | (go_at_call 20; refine (kReduce_u p _ M _ (HM.out.1.hold H9.out.2.2.1) b3 HS.out.2.2).mono ?_; rintro _ w10 ⟨v10, v11, rs10, R2, c2, rfl, hR2, hc2, hred2, hb10⟩
                 obtain ⟨rfl, rfl⟩ := H9.out.2.1.unique hred2
                 obtain ⟨a11, c11, rfl⟩ := hc2.lst.shape)
              | (at_builtin; refine append_all rfl (.tmp 78) (.tmp 79) rfl w10.heap.size _ [] rfl (empty_own _ _ (Nat.le_refl _)) _ x rfl ((HM.out.2.2.hold (Below.next (Nat.le_refl _) H9.out.2.2.1 hb10)).hold (Below.made (Nat.le_refl _) (Below.refl _ _) _)) (by simp) (by omega) (by simp) ?_; intro v12 w12 hown12 hb12; rw [List.nil_append] at hown12; obtain ⟨az, cz, rfl⟩ := hown12.slice)
              | fail)
            have hb12' : Below w10.heap.size w10 w12 := Below.trans (Below.made (Nat.le_refl _) (Below.refl _ _) _) hb12
            have H10 := Lib.hid (And.intro hc2.lst (And.intro (H9.out.1.hold hb10) (And.intro (H9.out.2.2.2.1.hold hb10) (Below.next (Nat.le_refl _) H9.out.2.2.1 hb10))))
            have H12 := Lib.hid (And.intro hown12 hb12')
            have i3 : (c.length : Int) ≤ 64 := by omega
            clear hc2 hR2 hred2 hb10 hown12 hb12 hb12'
            go_wp2_with fail
            go_loopw [15, 83] (fun fv jv wr => ∃ (j fr : Nat), fv = .int .i64 fr ∧ jv = .int .i64 j ∧ j ≤ x.length ∧ fr = (kerTo p R c x.length j).length ∧ Own wr w10.heap.size (.slice az x.length cz) (zl p R c x.length x j) ∧ Below w10.heap.size w10 wr) (fun _ jv _ => x.length - (intOf jv).toNat)
            case atStart => exact ⟨0, 0, rfl, rfl, Nat.zero_le _, rfl, H12.out.1, H12.out.2⟩
            case round =>
              obtain ⟨j, fr, rfl, rfl, hj, hfr, hown, hb⟩ := hrel
              have j0 : (0 : Int) ≤ (j : Int) := by omega
              by_cases hjn : j < x.length
              · have j1 : (j : Int) < (x.length : Int) := by omega
                have hfl := kerTo_len p R c x.length j
                have j2 : (fr : Int) ≤ 64 := by omega
                have HW := Lib.hid (And.intro hown (And.intro hb hfr))
                clear hown hb hfr hfl
                go_wp2_with fail
                rename World => wj
                go_loopw [18, 88] (fun pv iv wx => ∃ (i : Nat) (fb : Bool), iv = .int .i64 i ∧ pv = .bool fb ∧ i ≤ c.length ∧ fb = (c.take i).contains j ∧ wx = wj) (fun _ iv _ => c.length - (intOf iv).toNat)
                case atStart => exact ⟨0, false, rfl, rfl, Nat.zero_le _, rfl, rfl⟩
                case round =>
                  obtain ⟨i, fb, rfl, rfl, hi, hfb, hwx⟩ := hrel
                  obtain rfl : wj = wr := hwx.symm
                  have k0 : (0 : Int) ≤ (i : Int) := by omega
                  by_cases hic : i < c.length
                  · have k1 : (i : Int) < (c.length : Int) := by omega
                    obtain ⟨b2, o2, d2, e2, hcp⟩ := (H10.out.1.hold HW.out.2.1).cells i hic
                    obtain ⟨rfl, rfl⟩ : a11 = some ⟨b2, o2, none⟩ ∧ c11 = d2 := by simp at e2; exact e2
                    have hfs := fr_succ c j hic
                    obtain ⟨t, ht⟩ : ∃ t, t = c[i] := ⟨_, rfl⟩
                    rw [← ht] at hcp hfs
                    clear ht e2
                    cases fb with
                    | true =>
                      have HV := Lib.hid (And.intro hfs hfb)
                      clear hfs hfb
                      go_wp2
                      exact ⟨⟨i + 1, true, by go_num, rfl, by omega, by rw [HV.out.1, ← HV.out.2]; rfl, by first | rfl | trivial⟩, by simp [intOf]; omega⟩
                    | false =>
                      by_cases htj : t = j
                      · have i8 : ((t : Int) == (j : Int)) = true := by simp [htj]
                        have i9 : (t == j) = true := by simp [htj]
                        have HV := Lib.hid (And.intro hfs (And.intro hfb i9))
                        clear hfs hfb htj i9
                        go_wp2
                        exact ⟨⟨i + 1, true, by go_num, rfl, by omega, by rw [HV.out.1, ← HV.out.2.1, HV.out.2.2]; rfl, by first | rfl | trivial⟩, by simp [intOf]; omega⟩
                      · have i8 : ((t : Int) == (j : Int)) = false := by simp; omega
                        have i9 : (t == j) = false := by simpa using htj
                        have HV := Lib.hid (And.intro hfs (And.intro hfb i9))
                        clear hfs hfb htj i9
                        go_wp2
                        exact ⟨⟨i + 1, false, by go_num, rfl, by omega, by rw [HV.out.1, ← HV.out.2.1, HV.out.2.2]; rfl, by first | rfl | trivial⟩, by simp [intOf]; omega⟩
                  · obtain rfl : i = c.length := by omega
                    rw [List.take_of_length_le (Nat.le_refl _)] at hfb
                    cases fb with
                    | true =>
                      have hks := kerTo_piv (p := p) (R := R) (n := x.length) hfb.symm
                      have hz : zl p R c x.length x (j + 1) = zl p R c x.length x j := by rw [zl, if_pos hfb.symm]
                      have HV := Lib.hid (And.intro hks hz)
                      clear hks hz hfb
                      go_wp2_with fail
                      exact ⟨⟨j + 1, fr, rfl, by go_num, by omega, by rw [HV.out.1]; exact HW.out.2.2, by rw [HV.out.2]; exact HW.out.1, HW.out.2.1⟩, by simp [intOf]; omega⟩
                    | false =>
                      have hks := kerTo_free (p := p) (R := R) (n := x.length) hfb.symm
                      obtain ⟨hfl, hget⟩ := kerTo_get (p := p) (R := R) hjn hfb.symm
                      have hKx : K = kerTo p R c x.length x.length := by rw [H9.out.2.2.2.2.2.1]; exact H9.out.2.2.2.2.1
                      have hfK : fr < K.length := by rw [hKx, HW.out.2.2]; exact hfl
                      have hKf : K[fr] = kx p R c x.length j c.length := by
                        have e1 : K.getD fr [] = (kerTo p R c x.length x.length).getD ((kerTo p R c x.length j).length) [] := by rw [← hKx, ← HW.out.2.2]
                        rw [getD_row hfK, getD_row hfl, hget] at e1
                        exact e1
                      obtain ⟨b3, o3, d3, rv, e3, hcr, hlr⟩ := H10.out.2.1.rows fr hfK
                      obtain ⟨rfl, rfl⟩ : a9 = some ⟨b3, o3, none⟩ ∧ c9 = d3 := by simp at e3; exact e3
                      rw [hKf] at hlr
                      obtain ⟨ra, rc, rfl⟩ := hlr.shape
                      have hTl : (kx p R c x.length j c.length).length = x.length := kx_len _ _ _ _ _ _
                      have hz : zl p R c x.length x (j + 1) = suK p x[j] (zl p R c x.length x j) (kx p R c x.length j c.length) x.length := by
                        rw [zl, if_neg (by rw [← hfb]; decide), zl_len, getD_lt _ hjn]
                      obtain ⟨T, hT⟩ : ∃ T, T = kx p R c x.length j c.length := ⟨_, rfl⟩
                      rw [← hT] at hlr hcr hTl hz
                      rw [hTl] at hcr
                      obtain ⟨Z, hZ⟩ : ∃ Z, Z = zl p R c x.length x j := ⟨_, rfl⟩
                      have hZl : Z.length = x.length := by rw [hZ, zl_len]
                      rw [← hZ] at hz
                      have hownZ : Own wj w10.heap.size (.slice az x.length cz) Z := by rw [hZ]; exact HW.out.1
                      obtain ⟨gz, czz, ez⟩ : ∃ g cap, az = some ⟨g, 0, none⟩ ∧ cz = cap := by
                        rcases hownZ.cases with ⟨_, e⟩ | ⟨g, cap, e, _⟩
                        · rw [e] at hZl; simp at hZl; omega
                        · exact ⟨g, cap, by simp at e; exact ⟨e.1, e.2.2⟩⟩
                      obtain ⟨rfl, rfl⟩ := ez
                      obtain ⟨bx, ox, dx, ex, hcx⟩ := HM.out.2.2.cells j hjn
                      obtain ⟨rfl, rfl⟩ : a1 = some ⟨bx, ox, none⟩ ∧ c1 = dx := by simp at ex; exact ex
                      have huX := HM.out.2.2.us x[j] (List.getElem_mem hjn)
                      obtain ⟨X0, hX0⟩ : ∃ X0, X0 = x[j] := ⟨_, rfl⟩
                      rw [← hX0] at hcx huX hz
                      have hlenks : (kerTo p R c x.length (j + 1)).length = fr + 1 := by rw [hks, List.length_append, ← HW.out.2.2]; rfl
                      have k2 : (fr : Int) < (K.length : Int) := by omega
                      have k3 : (0 : Int) ≤ (fr : Int) := by omega
                      have k4 : ¬ (K.length : Int) ≤ (fr : Int) := by omega
                      have hcr0 := Below.hold HW.out.2.1 hcr
                      have HV := Lib.hid (And.intro hownZ (And.intro hlr (And.intro hcr (And.intro hcx (And.intro hz (And.intro hlenks (And.intro hZl hTl)))))))
                      clear hownZ hlr hcr hcx hz hlenks hZl hTl hZ hT hX0 hks hfl hget hKx hfK hKf hfb e3 ex
                      go_wp2_with fail
                      clear hcr0
                      go_loopw [116] (fun iv wx => ∃ i : Nat, iv = .int .i64 i ∧ i ≤ x.length ∧ Own wx w10.heap.size (.slice (some ⟨gz, 0, none⟩) x.length cz) (suK p X0 Z T i) ∧ Below w10.heap.size w10 wx) (fun iv _ => x.length - (intOf iv).toNat)
                      case atStart => exact ⟨0, rfl, Nat.zero_le _, by unfold suK; rw [updK_zero]; exact HV.out.1, HW.out.2.1⟩
                      case round =>
                        obtain ⟨i, rfl, hi, hown, hb⟩ := hrel
                        have k5 : (0 : Int) ≤ (i : Int) := by omega
                        by_cases hin : i < x.length
                        · have k6 : (i : Int) < (x.length : Int) := by omega
                          have hiX : i < (suK p X0 Z T i).length := by rw [suK_len, HV.out.2.2.2.2.2.2.1]; exact hin
                          have hiZ : i < Z.length := by rw [HV.out.2.2.2.2.2.2.1]; exact hin
                          have hiT : i < T.length := by rw [HV.out.2.2.2.2.2.2.2]; exact hin
                          have hXi : (suK p X0 Z T i)[i] = Z[i] := updK_at0 hiZ
                          have hc1 := hown.cell hiX
                          have hu1 := hown.us _ (List.getElem_mem hiX)
                          have hz1 := hown.thawed i
                          rw [hXi] at hc1 hu1
                          obtain ⟨b4, o4, d4, e4, hc2⟩ := HV.out.2.1.cells i hiT
                          have hu2 := HV.out.2.1.us T[i] (List.getElem_mem hiT)
                          obtain ⟨rfl, rfl⟩ : ra = some ⟨b4, o4, none⟩ ∧ rc = d4 := by simp at e4; exact e4
                          have hup : (suK p X0 Z T i).set i (sb p Z[i] (ml p X0 T[i])) = suK p X0 Z T (i + 1) := by
                            have h := updK_set0 (f := fun l => sb p (Z.getD l 0) (ml p X0 (T.getD l 0))) (L := Z) (k := i)
                            rw [getD_lt _ hiZ, getD_lt _ hiT] at h; exact h
                          have hcK := Below.hold hb HV.out.2.2.1
                          have hcX := Below.hold (Below.next (Nat.le_refl _) H10.out.2.2.2 hb) HV.out.2.2.2.1
                          have hcT := Below.hold hb hc2
                          obtain ⟨x1, hx1⟩ : ∃ x1, x1 = Z[i] := ⟨_, rfl⟩
                          obtain ⟨x2, hx2⟩ : ∃ x2, x2 = T[i] := ⟨_, rfl⟩
                          rw [← hx1] at hc1 hu1 hup
                          rw [← hx2] at hcT hu2 hup
                          have HQ := Lib.hid (And.intro hown (And.intro hb hup))
                          clear hown hb hup hx1 hx2 hXi hiX hiZ hiT e4 hc2
                          go_wp2_with fail
                          have k0 := fun q : NwAt wr => q.nw.hold hcK
                          have k1 := fun q : NwAt wr => q.nw.hold hcX
                          have k2 := fun q : NwAt wr => q.nw.hold hcT
                          have k3 := fun q : NwAt wr => q.nw.hold hc1
                          have k4 := fun q : NwAt wr => q.nw.holdf hz1
                          refine from_here ?_
                          intro q
                          refine wp_region_nwt 21 (by kernel_rfl) (by kernel_rfl) ?_
                          simp only [List.take_succ_cons, List.take_zero, List.drop_succ_cons, List.drop_zero]
                          repeat (go_big_quiet_step ((first | (go_at_call 43; exact nwAt_of (rMul_u _ _ _ _)) | (go_at_call 42; exact nwAt_of (rSub_u _ _ _ _)))))
                          refine wpQuiet_nil ?_
                          clear q
                          rintro _ ⟨q, rfl⟩
                          have j1 := k3 q
                          have j2 := k4 q
                          clear k0 k1 k2 k3 k4
                          have hs := (HQ.out.1.hold q.nw.b).set i (sb p x1 (ml p X0 x2))
                          rw [HQ.out.2.2] at hs
                          have HSet := Lib.hid (And.intro hs.1 (Below.wrote (Below.next (Nat.le_refl _) HQ.out.2.1 q.nw.b) (Nat.le_refl _) (Nat.le_trans HQ.out.2.1.size q.nw.b.size) (HQ.out.1.hold q.nw.b) hs.2))
                          clear hs
                          go_wp2
                          exact ⟨⟨i + 1, by go_num, by omega, HSet.out.1, HSet.out.2⟩, by simp [intOf]; omega⟩
                        · obtain rfl : i = x.length := by omega
                          have HQ := Lib.hid (And.intro hown hb)
                          clear hown hb
                          go_wp2
                          exact ⟨⟨j + 1, fr + 1, by go_num, by go_num, by omega, by rw [HV.out.2.2.2.2.2.1], by rw [HV.out.2.2.2.2.1]; exact HQ.out.1, HQ.out.2⟩, by simp [intOf]; omega⟩
              · obtain rfl : j = x.length := by omega
                have hKx : K = kerTo p R c x.length x.length := by rw [H9.out.2.2.2.2.2.1]; exact H9.out.2.2.2.2.1
                have hfin : ((fr : Int) == (K.length : Int)) = true := by rw [hKx, hfr]; simp
                have HW := Lib.hid (And.intro hown hb)
                clear hown hb hfr hKx
                go_wp2_with fail
                rename World => wj
                go_loopw [147] (fun iv wx => ∃ i : Nat, iv = .int .i64 i ∧ i ≤ x.length ∧ Own wx w10.heap.size (.slice az x.length cz) (zl p R c x.length x x.length) ∧ Below w10.heap.size w10 wx) (fun iv _ => x.length - (intOf iv).toNat)
                case atStart => exact ⟨0, rfl, Nat.zero_le _, HW.out.1, HW.out.2⟩
                case round =>
                  obtain ⟨i, rfl, hi, hown, hb⟩ := hrel
                  have HQ := Lib.hid (And.intro hown hb)
                  have k0 : (0 : Int) ≤ (i : Int) := by omega
                  by_cases hin : i < x.length
                  · have k6 : (i : Int) < (x.length : Int) := by omega
                    have hsl := (solutions HK.out.1 HK.out.2 H9.out.2.2.2.2.2.2.1 H7.out.2.1).2.2 i (by rw [← HK.out.2]; exact hin)
                    rw [← HK.out.2] at hsl
                    clear hb
                    obtain ⟨Z, hZ⟩ : ∃ Z, Z = zl p R c x.length x x.length := ⟨_, rfl⟩
                    have hZl : Z.length = x.length := by rw [hZ, zl_len]
                    rw [← hZ] at hown hsl
                    obtain ⟨gz, czz, ez⟩ : ∃ g cap, az = some ⟨g, 0, none⟩ ∧ cz = cap := by
                      rcases hown.cases with ⟨_, e⟩ | ⟨g, cap, e, _⟩
                      · rw [e] at hZl; simp at hZl; omega
                      · exact ⟨g, cap, by simp at e; exact ⟨e.1, e.2.2⟩⟩
                    obtain ⟨rfl, rfl⟩ := ez
                    have hiZ : i < Z.length := by rw [hZl]; exact hin
                    have hiX : i < X.length := by rw [H7.out.2.2.1, ← HK.out.2]; exact hin
                    have hc1 := hown.cell hiZ
                    have hu1 := hown.us _ (List.getElem_mem hiZ)
                    have hXL : Lst wr (.slice a7 x.length c7) X := H10.out.2.2.1.hold HQ.out.2
                    obtain ⟨b5, o5, d5, e5, hc2⟩ := hXL.cells i hiX
                    obtain ⟨rfl, rfl⟩ : a7 = some ⟨b5, o5, none⟩ ∧ c7 = d5 := by simp at e5; exact ⟨e5.1, e5.2.2⟩
                    rw [getD_lt _ hiZ, getD_lt _ hiX] at hsl
                    rw [← hsl] at hc2
                    obtain ⟨x1, hx1⟩ : ∃ x1, x1 = Z[i] := ⟨_, rfl⟩
                    rw [← hx1] at hc1 hu1 hc2
                    have hx0 := hu1.lo
                    have hx1' := hu1.hi
                    have hp0 : ¬ p = 0 := by omega
                    have hp1 : (p == 0) = false := by simpa using hp0
                    have ht : x1.tmod p = x1 % p := Int.tmod_eq_emod_of_nonneg hx0
                    have hm0 := Int.emod_nonneg x1 hp0
                    have hm1 := Int.emod_lt_of_pos x1 (show 0 < p by omega)
                    have hwr : IntKind.u64.wrap (x1 % p) = x1 % p := by rw [IntKind.wrap_u64]; omega
                    have hne1 : (x1 % p != x1 % p) = false := by simp
                    clear hsl hx1 hZ hown hiZ hiX hXL e5 hZl
                    go_wp2_with fail
                    have k0 := fun q : NwAt wr => q.nw.hold hc1
                    have k1 := fun q : NwAt wr => q.nw.hold hc2
                    refine from_here ?_
                    intro q
                    refine wp_region_nw (by kernel_rfl) (by kernel_rfl) ?_
                    repeat (go_big_quiet_step ((first | fail)))
                    refine wpQuiet_nil ?_
                    clear q
                    rintro _ ⟨q, rfl⟩
                    clear k0 k1
                    have HQ2 := Lib.hid (And.intro (HQ.out.1.hold q.nw.b) (Below.next (Nat.le_refl _) HQ.out.2 q.nw.b))
                    go_wp2
                    exact ⟨⟨i + 1, by go_num, by omega, HQ2.out.1, HQ2.out.2⟩, by simp [intOf]; omega⟩
                  · obtain rfl : i = x.length := by omega
                    clear hown hb
                    go_wp2
                    go_ret
                    exact ⟨by first | rfl | simp, Below.next (Nat.le_refl _) H10.out.2.2.2 HQ.out.2⟩
      · have hne : ((x.length : Int) != (cols M : Int)) = true := bne_iff_ne.2 (show (x.length : Int) ≠ (cols M : Int) by omega)
        have hc64 := hvd.cols
        clear hvd
        go_enter Try.func10, Try.ntmps10
        go_upto_region 3 with (first
          | (go_at_call 35; refine (rPrime_any n0 hn0.1 hn0.2 _).mono ?_; rintro _ w0 ⟨rfl, hb0⟩; rw [← HP.out]; have hA0 := HM.out.1.hold hb0.b; have HM0 := Lib.hid (And.intro hA0 hb0.b); clear hA0 hb0)
          | (go_at_call 16; refine (awake5_u _).mono ?_; rintro _ w1 ⟨rfl, hb1⟩)
          | (go_at_call 17; refine (small5_u _ M _ (HM0.out.1.hold hb1) hn HM.out.2.1).mono ?_; rintro e w2 ⟨rfl, hw2⟩; obtain rfl : w1 = w2 := hw2.symm; rw [HS.out.1])
          | (go_at_call 40; refine (kValid_u _ M _ (HM0.out.1.hold hb1) b3 HS.out.2.2).mono ?_; rintro e w3 ⟨rfl, hb3⟩; rw [HV.out]; have g3 := Below.next (Nat.le_refl _) HM0.out.2 (Below.next (Nat.le_refl _) hb1 hb3.b))
          | (go_at_call 41; refine (kColumns_u _ M _ (HM.out.1.hold g3) (by omega)).mono ?_; rintro e w4 ⟨rfl, hw4⟩; obtain rfl : w3 = w4 := hw4.symm)
          | fail)
        have HB := Lib.hid (g3)
        go_wp2_with (go_at_call 16; refine (awake5_u _).mono ?_; rintro _ w5 ⟨rfl, hb5⟩)
        go_ret
        exact ⟨rfl, Below.next (Nat.le_refl _) HB.out hb5⟩
    · have HV := Lib.hid (decide_eq_false hvd)
      clear hvd
      go_enter Try.func10, Try.ntmps10
      go_upto_region 3 with (first
        | (go_at_call 35; refine (rPrime_any n0 hn0.1 hn0.2 _).mono ?_; rintro _ w0 ⟨rfl, hb0⟩; rw [← HP.out]; have hA0 := HM.out.1.hold hb0.b; have HM0 := Lib.hid (And.intro hA0 hb0.b); clear hA0 hb0)
        | (go_at_call 16; refine (awake5_u _).mono ?_; rintro _ w1 ⟨rfl, hb1⟩)
        | (go_at_call 17; refine (small5_u _ M _ (HM0.out.1.hold hb1) hn HM.out.2.1).mono ?_; rintro e w2 ⟨rfl, hw2⟩; obtain rfl : w1 = w2 := hw2.symm; rw [HS.out.1])
        | (go_at_call 40; refine (kValid_u _ M _ (HM0.out.1.hold hb1) b3 HS.out.2.2).mono ?_; rintro e w3 ⟨rfl, hb3⟩; rw [HV.out]; have g3 := Below.next (Nat.le_refl _) HM0.out.2 (Below.next (Nat.le_refl _) hb1 hb3.b))
        | fail)
      have HB := Lib.hid (g3)
      go_wp2_with (go_at_call 16; refine (awake5_u _).mono ?_; rintro _ w5 ⟨rfl, hb5⟩)
      go_ret
      exact ⟨rfl, Below.next (Nat.le_refl _) HB.out hb5⟩
  · have HS := Lib.hid (decide_eq_false hs)
    clear hs
    go_enter Try.func10, Try.ntmps10
    go_upto_region 3 with (first
      | (go_at_call 35; refine (rPrime_any n0 hn0.1 hn0.2 _).mono ?_; rintro _ w0 ⟨rfl, hb0⟩; rw [← HP.out]; have hA0 := HM.out.1.hold hb0.b; have HM0 := Lib.hid (And.intro hA0 hb0.b); clear hA0 hb0)
      | (go_at_call 16; refine (awake5_u _).mono ?_; rintro _ w1 ⟨rfl, hb1⟩)
      | (go_at_call 17; refine (small5_u _ M _ (HM0.out.1.hold hb1) hn HM.out.2.1).mono ?_; rintro e w2 ⟨rfl, hw2⟩; obtain rfl : w1 = w2 := hw2.symm; rw [HS.out])
      | fail)
    have HB := Lib.hid (Below.next (Nat.le_refl _) HM0.out.2 hb1)
    go_wp2_with (go_at_call 16; refine (awake5_u _).mono ?_; rintro _ w5 ⟨rfl, hb5⟩)
    go_ret
    exact ⟨rfl, Below.next (Nat.le_refl _) HB.out hb5⟩
end Go.Proofs.Ytdcdaclkeocfpaa
