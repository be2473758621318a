/- The walk of the statement on the division. -/
import Derived.Test.YtgdnkbigdggbaaaLP4
namespace Go.Proofs.Ytgdnkbigdggbaaa
open Go.RowKit Go.BigFrame

theorem quot_same {p : Int} (hk : known p = true) {f b : Nat → Fin (Q p)} {r1 r2 s1 s2 : List Int} (h1 : ∃ u r, Is p r1 u ∧ Is p r2 r ∧ Po.DivOf f b u r) (h2 : ∃ u r, Is p s1 u ∧ Is p s2 r ∧ Po.DivOf f b u r) :
    r1 = s1 ∧ r2 = s2 := by
  obtain ⟨u, r, a1, a2, a3⟩ := h1
  obtain ⟨v, s, b1, b2, b3⟩ := h2
  have d1 : Po.Deg u r1.length := by rw [← a1.pf hk]; exact pf_deg hk _
  have d2 : Po.Deg v s1.length := by rw [← b1.pf hk]; exact pf_deg hk _
  have := Po.DivOf.unique (fld hk) d1 d2 a3 b3
  exact ⟨a1.same b1 fun _ => this.1, a2.same b2 fun _ => this.2⟩
theorem quot_back {p : Int} (hk : known p = true) {f b : Nat → Fin (Q p)} {r1 r2 m : List Int} (h : ∃ u r, Is p r1 u ∧ Is p r2 r ∧ Po.DivOf f b u r) (hm : Is p m (Po.cv (pf p r1) b)) : Po.ad (pf p m) (pf p r2) = f := by
  obtain ⟨u, r, a1, a2, a3⟩ := h
  rw [hm.pf hk, a1.pf hk, a2.pf hk, a3.1]
theorem cut_pos {p : Int} {b : List Int} (hnz : pf p b ≠ Po.ze) (hk : known p = true) : ∃ n : Nat, n ≤ b.length ∧ ((cut0 (b.map (rd p))).length : Int) - 1 = (n : Int) := by
  have hlen := cut0_len (b.map (rd p))
  rw [List.length_map] at hlen
  rcases Nat.eq_zero_or_pos (cut0 (b.map (rd p))).length with h | h
  · exact absurd (cut_nil h hk) hnz
  · exact ⟨(cut0 (b.map (rd p))).length - 1, by omega, by omega⟩
theorem cut_zero {p : Int} {b : List Int} (hz : pf p b = Po.ze) : ((cut0 (b.map (rd p))).length : Int) - 1 = -1 := by
  have := (is_trim p b).bound (n := 0) fun _ => by rw [hz]; exact Po.deg_ze 0
  omega

set_option maxRecDepth 100000 in
set_option maxHeartbeats 8000000 in
theorem law_pdivmod (p : Int) [hU : U p] (va0 vb0 : Value) (a b : List Int) (w : World) (hla0 : Lst w va0 a) (hlb0 : Lst w vb0 b) (hna : a.length ≤ 9223372036854775807) (hnb : b.length ≤ 9223372036854775807) :
    Calls Try.prog 7 #[.int .u64 p, va0, vb0] w fun e w' => e = .returned (.bool true) ∧ Below w.heap.size w w' := by
  obtain ⟨a0, c0, rfl⟩ := hla0.shape
  obtain ⟨a1, c1, rfl⟩ := hlb0.shape
  have HL := Lib.hid hla0
  have HM := Lib.hid hlb0
  clear hla0 hlb0
  by_cases hs : a.length ≤ 24
  · have hd : decide (a.length ≤ 24) = true := decide_eq_true hs
    by_cases ht : b.length ≤ 24
    · have hd2 : decide (b.length ≤ 24) = true := decide_eq_true ht
      go_enter Try.func7, Try.ntmps7
      go_upto_region 4 with (first | (go_at_call 12; refine (awake3_u _).mono ?_; rintro _ w1 ⟨rfl, hb1⟩) | (go_at_call 13; refine (few3_u _ _ _ _ (by omega)).mono ?_; rintro _ _ ⟨rfl, rfl⟩))
      refine name_world ?_
      intro W hW
      have hb : Below w.heap.size w W := by rw [hW]; exact Below.made (Nat.le_refl _) hb1 _
      have hf : W.cell? ⟨w1.heap.size, 0, none⟩ = some (.int .u64 p) := by rw [hW]; go_simp
      have HB := Lib.hid hb
      clear hW hb hb1
      go_wp2_with fail
      refine (oDivMod_p p _ _ a b _ (HL.out.hold HB.out) (HM.out.hold HB.out) (by omega) (by omega)).mono ?_
      rintro _ wa ⟨v1, v2, r1, r2, er, rfl, hl1, hl2, hba, hcase⟩
      replace hf := Below.hold hba hf
      replace HB := Lib.hid (Below.next (Nat.le_refl _) HB.out hba)
      rcases hcase with ⟨hk, rfl, rfl, rfl⟩ | ⟨hk, hz, rfl, rfl, rfl⟩ | ⟨hk, hnz, rfl, hr1, hr2, hdiv⟩
      · obtain ⟨a2, c2, rfl⟩ : ∃ a c, v1 = .slice a 0 c := hl1.shape
        obtain ⟨a3, c3, rfl⟩ : ∃ a c, v2 = .slice a 0 c := hl2.shape
        have HK := Lib.hid hk
        clear hba hl1 hl2 hk hf
        go_wp2_with fail
        refine (rValid_any _ _).mono ?_
        rintro e w2 ⟨rfl, hb2⟩
        rw [HK.out]
        have HB2 := Lib.hid (Below.next (Nat.le_refl _) HB.out hb2.b)
        clear hb2
        go_wp2
        go_ret
        exact ⟨rfl, HB2.out⟩
      · obtain ⟨a2, c2, rfl⟩ : ∃ a c, v1 = .slice a 0 c := hl1.shape
        obtain ⟨a3, c3, rfl⟩ : ∃ a c, v2 = .slice a 0 c := hl2.shape
        have HK := Lib.hid (And.intro hk (cut_zero hz))
        clear hba hl1 hl2 hk hf hz
        go_wp2_with fail
        refine (rValid_any _ _).mono ?_
        rintro e w2 ⟨rfl, hb2⟩
        rw [HK.out.1]
        have HB2 := Lib.hid (Below.next (Nat.le_refl _) HB.out hb2.b)
        clear hb2
        go_wp2_with fail
        refine (sDegree_u p _ b _ (HM.out.hold HB2.out) (by omega)).mono ?_
        rintro _ w3 ⟨rfl, hb3⟩
        rw [HK.out.2]
        have HB3 := Lib.hid (Below.next (Nat.le_refl _) HB2.out hb3)
        clear hb3
        go_wp2
        go_ret
        exact ⟨rfl, HB3.out⟩
      · obtain ⟨n, hn, hcn⟩ := cut_pos hnz hk
        have hni : ¬ (n : Int) < 0 := by omega
        obtain ⟨a2, c2, rfl⟩ := hl1.shape
        obtain ⟨a3, c3, rfl⟩ := hl2.shape
        have HK := Lib.hid (And.intro hk (And.intro hcn hnz))
        have HQ := Lib.hid (And.intro hl1 hl2)
        have HD := Lib.hid hdiv
        clear hba hl1 hl2 hk hf hnz hcn hdiv
        go_wp2_with fail
        refine (rValid_any _ _).mono ?_
        rintro e w2 ⟨rfl, hb2⟩
        rw [HK.out.1]
        replace HB := Lib.hid (Below.next (Nat.le_refl _) HB.out hb2.b)
        replace HQ := Lib.hid (And.imp (·.hold hb2.b) (·.hold hb2.b) HQ.out)
        clear hb2
        go_wp2_with fail
        refine (sDegree_u p _ b _ (HM.out.hold HB.out) (by omega)).mono ?_
        rintro _ w3 ⟨rfl, hb3⟩
        rw [HK.out.2.1]
        replace HB := Lib.hid (Below.next (Nat.le_refl _) HB.out hb3)
        replace HQ := Lib.hid (And.imp (·.hold hb3) (·.hold hb3) HQ.out)
        clear hb3
        go_wp2_with fail
        refine (sDivMod_p p HK.out.1 _ _ a b _ (HL.out.hold HB.out) (HM.out.hold HB.out) (by omega) (by omega) HK.out.2.2).mono ?_
        rintro _ w4 ⟨v4, v5, r4, r5, rfl, hown4, hown5, hq, hlen4, hlen5, hb4⟩
        obtain ⟨rfl, rfl⟩ := quot_same HK.out.1 HD.out hq
        replace HB := Lib.hid (Below.next (Nat.le_refl _) HB.out hb4)
        replace HQ := Lib.hid (And.imp (·.hold hb4) (·.hold hb4) HQ.out)
        have HX := Lib.hid (And.intro hown4.lst hown5.lst)
        clear hb4 hown4 hown5 hq
        go_wp2_with fail
        refine (same3_l _ _ r1 _ HQ.out.1 HX.out.1 (by omega)).mono ?_
        rintro _ w5 ⟨rfl, hb5⟩
        replace HB := Lib.hid (Below.next (Nat.le_refl _) HB.out hb5)
        replace HQ := Lib.hid (And.imp (·.hold hb5) (·.hold hb5) HQ.out)
        replace HX := Lib.hid (HX.out.2.hold hb5)
        clear hb5
        go_wp2_with fail
        refine (same3_l _ _ r2 _ HQ.out.2 HX.out (by omega)).mono ?_
        rintro _ w6 ⟨rfl, hb6⟩
        replace HB := Lib.hid (Below.next (Nat.le_refl _) HB.out hb6)
        replace HQ := Lib.hid (And.imp (·.hold hb6) (·.hold hb6) HQ.out)
        clear hb6 HX
        go_wp2_with fail
        refine (sMul_p p _ _ r1 b _ HQ.out.1 (HM.out.hold HB.out) (by omega) (by omega)).mono ?_
        rintro _ w7 ⟨v7, r7, rfl, hown7, his7, hb7⟩
        replace HB := Lib.hid (Below.next (Nat.le_refl _) HB.out hb7)
        replace HQ := Lib.hid (HQ.out.2.hold hb7)
        have hl7 : r7.length ≤ 200 := his7.bound fun hk => (mul_deg hk r1 b).mono (by omega)
        have H7 := Lib.hid (And.intro hown7.lst his7)
        clear hb7 hown7 his7
        go_wp2_with fail
        refine (sAdd_p p _ _ r7 r2 _ H7.out.1 HQ.out (by omega) (by omega)).mono ?_
        rintro _ w8 ⟨v8, r8, rfl, hown8, his8, hb8⟩
        replace HB := Lib.hid (Below.next (Nat.le_refl _) HB.out hb8)
        have hl8 : r8.length ≤ 200 := his8.bound fun hk => ((pf_deg hk r7).mono hl7).ad ((pf_deg hk r2).mono (by omega))
        have H8 := Lib.hid (And.intro hown8.lst his8)
        clear hb8 hown8 his8 HQ
        go_wp2_with fail
        refine (sTrim_p p _ a _ (HL.out.hold HB.out) (by omega)).mono ?_
        rintro _ w9 ⟨v9, r9, rfl, hown9, his9, hb9⟩
        replace HB := Lib.hid (Below.next (Nat.le_refl _) HB.out hb9)
        have H9 := Lib.hid (And.intro (H8.out.1.hold hb9) (And.intro hown9.lst his9))
        clear hb9 hown9 his9
        go_wp2_with fail
        refine (same3_p H9.out.1 H9.out.2.1 H8.out.2 H9.out.2.2 (fun hk => quot_back hk HD.out H7.out.2) (by omega)).mono ?_
        rintro _ w10 ⟨rfl, hb10⟩
        replace HB := Lib.hid (Below.next (Nat.le_refl _) HB.out hb10)
        clear hb10
        go_wp2
        go_ret
        exact ⟨by simp, HB.out⟩
    · have hd2 : decide (b.length ≤ 24) = false := decide_eq_false ht
      go_enter Try.func7, Try.ntmps7
      go_upto_region 2 with (first | (go_at_call 12; refine (awake3_u _).mono ?_; rintro _ w1 ⟨rfl, hb1⟩) | (go_at_call 13; refine (few3_u _ _ _ _ (by omega)).mono ?_; rintro _ _ ⟨rfl, rfl⟩))
      have HB := Lib.hid hb1
      clear hb1
      go_wp2_with (first | (go_at_call 12; refine (awake3_u _).mono ?_; rintro _ w1 ⟨rfl, hb1⟩))
      go_ret
      exact ⟨rfl, Below.next (Nat.le_refl _) HB.out hb1⟩
  · have hd : decide (a.length ≤ 24) = false := decide_eq_false hs
    go_enter Try.func7, Try.ntmps7
    go_upto_region 2 with (first | (go_at_call 12; refine (awake3_u _).mono ?_; rintro _ w1 ⟨rfl, hb1⟩) | (go_at_call 13; refine (few3_u _ _ _ _ (by omega)).mono ?_; rintro _ _ ⟨rfl, rfl⟩))
    have HB := Lib.hid hb1
    clear hb1
    go_wp2_with (first | (go_at_call 12; refine (awake3_u _).mono ?_; rintro _ w1 ⟨rfl, hb1⟩))
    go_ret
    exact ⟨rfl, Below.next (Nat.le_refl _) HB.out hb1⟩
end Go.Proofs.Ytgdnkbigdggbaaa
