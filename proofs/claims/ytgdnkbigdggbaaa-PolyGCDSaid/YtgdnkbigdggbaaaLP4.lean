/- The walks of the statements on the normal form, the sums, the product. -/
import Derived.Test.YtgdnkbigdggbaaaLP3
namespace Go.Proofs.Ytgdnkbigdggbaaa
open Go.RowKit Go.BigFrame

set_option maxRecDepth 100000 in
set_option maxHeartbeats 8000000 in
theorem law_ptrim (p : Int) [hU : U p] (v : Value) (l : List Int) (w : World) (hl : Lst w v l) (hn : l.length ≤ 9223372036854775807) :
    Calls Try.prog 3 #[.int .u64 p, v] w fun e w' => e = .returned (.bool true) ∧ Below w.heap.size w w' := by
  obtain ⟨a0, c0, rfl⟩ := hl.shape
  have HL := Lib.hid hl
  clear hl
  by_cases hs : l.length ≤ 24
  · have hd : decide (l.length ≤ 24) = true := decide_eq_true hs
    go_enter Try.func3, Try.ntmps3
    go_upto_region 4 with (first | (go_at_call 12; refine (awake3_u _).mono ?_; rintro _ w1 ⟨rfl, hb1⟩) | (go_at_call 13; refine (few3_u _ _ _ _ (by omega)).mono ?_; rintro _ _ ⟨rfl, rfl⟩))
    refine name_world ?_
    intro W hW
    have hb : Below w.heap.size w W := by rw [hW]; exact Below.made (Nat.le_refl _) hb1 _
    have hf : W.cell? ⟨w1.heap.size, 0, none⟩ = some (.int .u64 p) := by rw [hW]; go_simp
    have HB := Lib.hid hb
    clear hW hb hb1
    go_wp2_with fail
    refine (oTrim_p p _ l _ (HL.out.hold HB.out) (by omega)).mono ?_
    rintro _ w2 ⟨v2, r2, rfl, hl2, hi2, hb2⟩
    have hr2 : r2.length ≤ 24 := hi2.bound fun hk => (pf_deg hk l).mono hs
    have H2 := Lib.hid (And.intro hl2 hi2)
    have HB2 := Lib.hid hb2
    clear hl2 hi2 hb2
    go_wp2_with fail
    refine (sTrim_p p _ l _ ((HL.out.hold HB.out).hold HB2.out) (by omega)).mono ?_
    rintro _ w3 ⟨v3, r3, rfl, hl3, hi3, hb3⟩
    have H3 := Lib.hid (And.intro hl3.lst hi3)
    have HB3 := Lib.hid (Below.next (Nat.le_refl _) HB2.out hb3)
    have H2b := Lib.hid (H2.out.1.hold hb3)
    clear hl3 hi3 hb3
    go_wp2_with fail
    refine (same3_p H2b.out H3.out.1 H2.out.2 H3.out.2 (fun _ => rfl) (by omega)).mono ?_
    rintro _ w4 ⟨rfl, hb4⟩
    have HB4 := Lib.hid (Below.next (Nat.le_refl _) HB3.out hb4)
    have f4 := Below.hold HB4.out hf
    clear hb4
    go_wp2_with fail
    refine (oDegree_u p _ l _ ((HL.out.hold HB.out).hold HB4.out) (by omega)).mono ?_
    rintro _ w5 ⟨rfl, hb5⟩
    have HB5 := Lib.hid (Below.next (Nat.le_refl _) HB4.out hb5)
    clear hb5
    go_wp2_with fail
    refine (sDegree_u p _ l _ ((HL.out.hold HB.out).hold HB5.out) (by omega)).mono ?_
    rintro _ w6 ⟨rfl, hb6⟩
    have HB6 := Lib.hid (Below.next (Nat.le_refl _) HB5.out hb6)
    clear hb6
    go_wp2
    go_ret
    exact ⟨by simp, Below.next (Nat.le_refl _) HB.out HB6.out⟩
  · have hd : decide (l.length ≤ 24) = false := decide_eq_false hs
    go_enter Try.func3, Try.ntmps3
    go_upto_region 2 with (first | (go_at_call 12; refine (awake3_u _).mono ?_; rintro _ w1 ⟨rfl, hb1⟩) | (go_at_call 13; refine (few3_u _ _ _ _ (by omega)).mono ?_; rintro _ _ ⟨rfl, rfl⟩))
    have HB := Lib.hid hb1
    clear hb1
    go_wp2_with (first | (go_at_call 12; refine (awake3_u _).mono ?_; rintro _ w1 ⟨rfl, hb1⟩))
    go_ret
    exact ⟨rfl, Below.next (Nat.le_refl _) HB.out hb1⟩

set_option maxRecDepth 100000 in
set_option maxHeartbeats 8000000 in
theorem law_psums (p : Int) [hU : U p] (va0 vb0 : Value) (a b : List Int) (w : World) (hla0 : Lst w va0 a) (hlb0 : Lst w vb0 b) (hna : a.length ≤ 9223372036854775807) (hnb : b.length ≤ 9223372036854775807) :
    Calls Try.prog 4 #[.int .u64 p, va0, vb0] w fun e w' => e = .returned (.bool true) ∧ Below w.heap.size w w' := by
  obtain ⟨a0, c0, rfl⟩ := hla0.shape
  obtain ⟨a1, c1, rfl⟩ := hlb0.shape
  have HL := Lib.hid hla0
  have HM := Lib.hid hlb0
  clear hla0 hlb0
  by_cases hs : a.length ≤ 24
  · have hd : decide (a.length ≤ 24) = true := decide_eq_true hs
    by_cases ht : b.length ≤ 24
    · have hd2 : decide (b.length ≤ 24) = true := decide_eq_true ht
      have ha2 : (a.length : Int) ≤ 24 := by omega
      have hwr : IntKind.u64.wrap ((a.length : Int) * 1000003) = (a.length : Int) * 1000003 := by rw [IntKind.wrap_u64]; omega
      by_cases hb0 : b = []
      · have hpi : ¬ (0 : Int) < (b.length : Int) := by rw [hb0]; decide
        have hun : U ((a.length : Int) * 1000003) := ⟨by omega, by omega⟩
        clear hb0
        go_enter Try.func4, Try.ntmps4
        go_upto_region 4 with (first | (go_at_call 12; refine (awake3_u _).mono ?_; rintro _ w1 ⟨rfl, hb1⟩) | (go_at_call 13; refine (few3_u _ _ _ _ (by omega)).mono ?_; rintro _ _ ⟨rfl, rfl⟩))
        refine name_world ?_
        intro W hW
        have hb : Below w.heap.size w W := by rw [hW]; exact Below.made (Nat.le_refl _) hb1 _
        have hf : W.cell? ⟨w1.heap.size, 0, none⟩ = some (.int .u64 p) := by rw [hW]; go_simp
        have HB := Lib.hid hb
        clear hW hb hb1
        go_upto_region 7 with fail
        go_wp2_with fail
        refine (oAdd_p p _ _ a b _ (HL.out.hold HB.out) (HM.out.hold HB.out) (by omega) (by omega)).mono ?_
        rintro _ wa ⟨va, ra, rfl, hla, hia, hba⟩
        replace hf := Below.hold hba hf
        replace HB := Lib.hid (Below.next (Nat.le_refl _) HB.out hba)
        have HA := Lib.hid (And.intro hla hia)
        clear hla hia hba
        go_wp2_with fail
        refine (sAdd_p p _ _ a b _ (HL.out.hold HB.out) (HM.out.hold HB.out) (by omega) (by omega)).mono ?_
        rintro _ wb ⟨vb, rb, rfl, hlb, hib, hbb⟩
        have hlen : ra.length ≤ 100 := HA.out.2.bound fun hk => (((pf_deg hk a).mono (Nat.le_trans hs (by decide))).ad ((pf_deg hk b).mono (Nat.le_trans ht (by decide))))
        have HS := Lib.hid (And.intro (HA.out.1.hold hbb) (And.intro hlb.lst (And.intro HA.out.2 hib)))
        replace hf := Below.hold hbb hf
        replace HB := Lib.hid (Below.next (Nat.le_refl _) HB.out hbb)
        clear hlb hib hbb HA
        go_wp2_with fail
        refine (same3_p HS.out.1 HS.out.2.1 HS.out.2.2.1 HS.out.2.2.2 (fun hk => rfl) (by omega)).mono ?_
        rintro _ wc ⟨rfl, hbc⟩
        replace hf := Below.hold hbc hf
        replace HB := Lib.hid (Below.next (Nat.le_refl _) HB.out hbc)
        clear hbc HS hlen
        go_wp2_with fail
        refine (oSub_p p _ _ a b _ (HL.out.hold HB.out) (HM.out.hold HB.out) (by omega) (by omega)).mono ?_
        rintro _ wa ⟨va, ra, rfl, hla, hia, hba⟩
        replace hf := Below.hold hba hf
        replace HB := Lib.hid (Below.next (Nat.le_refl _) HB.out hba)
        have HA := Lib.hid (And.intro hla hia)
        clear hla hia hba
        go_wp2_with fail
        refine (sSub_p p _ _ a b _ (HL.out.hold HB.out) (HM.out.hold HB.out) (by omega) (by omega)).mono ?_
        rintro _ wb ⟨vb, rb, rfl, hlb, hib, hbb⟩
        have hlen : ra.length ≤ 100 := HA.out.2.bound fun hk => (((pf_deg hk a).mono (Nat.le_trans hs (by decide))).sb ((pf_deg hk b).mono (Nat.le_trans ht (by decide))))
        have HS := Lib.hid (And.intro (HA.out.1.hold hbb) (And.intro hlb.lst (And.intro HA.out.2 hib)))
        replace hf := Below.hold hbb hf
        replace HB := Lib.hid (Below.next (Nat.le_refl _) HB.out hbb)
        clear hlb hib hbb HA
        go_wp2_with fail
        refine (same3_p HS.out.1 HS.out.2.1 HS.out.2.2.1 HS.out.2.2.2 (fun hk => rfl) (by omega)).mono ?_
        rintro _ wc ⟨rfl, hbc⟩
        replace hf := Below.hold hbc hf
        replace HB := Lib.hid (Below.next (Nat.le_refl _) HB.out hbc)
        clear hbc HS hlen
        go_wp2_with fail
        refine (oScale_p p _ _ a _ (HL.out.hold HB.out) (by omega)).mono ?_
        rintro _ wa ⟨va, ra, rfl, hla, hia, hba⟩
        replace hf := Below.hold hba hf
        replace HB := Lib.hid (Below.next (Nat.le_refl _) HB.out hba)
        have HA := Lib.hid (And.intro hla hia)
        clear hla hia hba
        go_wp2_with fail
        refine (sScale_p p _ _ a _ (HL.out.hold HB.out) (by omega)).mono ?_
        rintro _ wb ⟨vb, rb, rfl, hlb, hib, hbb⟩
        have hlen : ra.length ≤ 100 := HA.out.2.bound fun hk => (((pf_deg hk a).mono (Nat.le_trans hs (by decide))).sc _)
        have HS := Lib.hid (And.intro (HA.out.1.hold hbb) (And.intro hlb.lst (And.intro HA.out.2 hib)))
        replace hf := Below.hold hbb hf
        replace HB := Lib.hid (Below.next (Nat.le_refl _) HB.out hbb)
        clear hlb hib hbb HA
        go_wp2_with fail
        refine (same3_p HS.out.1 HS.out.2.1 HS.out.2.2.1 HS.out.2.2.2 (fun hk => rfl) (by omega)).mono ?_
        rintro _ wc ⟨rfl, hbc⟩
        replace hf := Below.hold hbc hf
        replace HB := Lib.hid (Below.next (Nat.le_refl _) HB.out hbc)
        clear hbc HS hlen
        go_wp2
        go_ret
        exact ⟨by simp, HB.out⟩
      · have hpos : 0 < b.length := List.length_pos_iff.2 hb0
        have hpi : (0 : Int) < (b.length : Int) := by omega
        obtain ⟨b1, o1, d1, e1, g1⟩ := HM.out.cells 0 hpos
        obtain ⟨rfl, rfl⟩ : a1 = some ⟨b1, o1, none⟩ ∧ c1 = d1 := by simp at e1; exact e1
        have hun := HM.out.us b[0] (List.getElem_mem _)
        clear e1
        go_enter Try.func4, Try.ntmps4
        go_upto_region 4 with (first | (go_at_call 12; refine (awake3_u _).mono ?_; rintro _ w1 ⟨rfl, hb1⟩) | (go_at_call 13; refine (few3_u _ _ _ _ (by omega)).mono ?_; rintro _ _ ⟨rfl, rfl⟩))
        refine name_world ?_
        intro W hW
        have hb : Below w.heap.size w W := by rw [hW]; exact Below.made (Nat.le_refl _) hb1 _
        have hf : W.cell? ⟨w1.heap.size, 0, none⟩ = some (.int .u64 p) := by rw [hW]; go_simp
        have HB := Lib.hid hb
        clear hW hb hb1
        have g2 := Below.hold HB.out (show w.cell? ⟨b1, o1, none⟩ = some (.int .u64 b[0]) from g1)
        clear g1 hb0
        go_upto_region 7 with fail
        clear g2
        go_wp2_with fail
        refine (oAdd_p p _ _ a b _ (HL.out.hold HB.out) (HM.out.hold HB.out) (by omega) (by omega)).mono ?_
        rintro _ wa ⟨va, ra, rfl, hla, hia, hba⟩
        replace hf := Below.hold hba hf
        replace HB := Lib.hid (Below.next (Nat.le_refl _) HB.out hba)
        have HA := Lib.hid (And.intro hla hia)
        clear hla hia hba
        go_wp2_with fail
        refine (sAdd_p p _ _ a b _ (HL.out.hold HB.out) (HM.out.hold HB.out) (by omega) (by omega)).mono ?_
        rintro _ wb ⟨vb, rb, rfl, hlb, hib, hbb⟩
        have hlen : ra.length ≤ 100 := HA.out.2.bound fun hk => (((pf_deg hk a).mono (Nat.le_trans hs (by decide))).ad ((pf_deg hk b).mono (Nat.le_trans ht (by decide))))
        have HS := Lib.hid (And.intro (HA.out.1.hold hbb) (And.intro hlb.lst (And.intro HA.out.2 hib)))
        replace hf := Below.hold hbb hf
        replace HB := Lib.hid (Below.next (Nat.le_refl _) HB.out hbb)
        clear hlb hib hbb HA
        go_wp2_with fail
        refine (same3_p HS.out.1 HS.out.2.1 HS.out.2.2.1 HS.out.2.2.2 (fun hk => rfl) (by omega)).mono ?_
        rintro _ wc ⟨rfl, hbc⟩
        replace hf := Below.hold hbc hf
        replace HB := Lib.hid (Below.next (Nat.le_refl _) HB.out hbc)
        clear hbc HS hlen
        go_wp2_with fail
        refine (oSub_p p _ _ a b _ (HL.out.hold HB.out) (HM.out.hold HB.out) (by omega) (by omega)).mono ?_
        rintro _ wa ⟨va, ra, rfl, hla, hia, hba⟩
        replace hf := Below.hold hba hf
        replace HB := Lib.hid (Below.next (Nat.le_refl _) HB.out hba)
        have HA := Lib.hid (And.intro hla hia)
        clear hla hia hba
        go_wp2_with fail
        refine (sSub_p p _ _ a b _ (HL.out.hold HB.out) (HM.out.hold HB.out) (by omega) (by omega)).mono ?_
        rintro _ wb ⟨vb, rb, rfl, hlb, hib, hbb⟩
        have hlen : ra.length ≤ 100 := HA.out.2.bound fun hk => (((pf_deg hk a).mono (Nat.le_trans hs (by decide))).sb ((pf_deg hk b).mono (Nat.le_trans ht (by decide))))
        have HS := Lib.hid (And.intro (HA.out.1.hold hbb) (And.intro hlb.lst (And.intro HA.out.2 hib)))
        replace hf := Below.hold hbb hf
        replace HB := Lib.hid (Below.next (Nat.le_refl _) HB.out hbb)
        clear hlb hib hbb HA
        go_wp2_with fail
        refine (same3_p HS.out.1 HS.out.2.1 HS.out.2.2.1 HS.out.2.2.2 (fun hk => rfl) (by omega)).mono ?_
        rintro _ wc ⟨rfl, hbc⟩
        replace hf := Below.hold hbc hf
        replace HB := Lib.hid (Below.next (Nat.le_refl _) HB.out hbc)
        clear hbc HS hlen
        go_wp2_with fail
        refine (oScale_p p _ _ a _ (HL.out.hold HB.out) (by omega)).mono ?_
        rintro _ wa ⟨va, ra, rfl, hla, hia, hba⟩
        replace hf := Below.hold hba hf
        replace HB := Lib.hid (Below.next (Nat.le_refl _) HB.out hba)
        have HA := Lib.hid (And.intro hla hia)
        clear hla hia hba
        go_wp2_with fail
        refine (sScale_p p _ _ a _ (HL.out.hold HB.out) (by omega)).mono ?_
        rintro _ wb ⟨vb, rb, rfl, hlb, hib, hbb⟩
        have hlen : ra.length ≤ 100 := HA.out.2.bound fun hk => (((pf_deg hk a).mono (Nat.le_trans hs (by decide))).sc _)
        have HS := Lib.hid (And.intro (HA.out.1.hold hbb) (And.intro hlb.lst (And.intro HA.out.2 hib)))
        replace hf := Below.hold hbb hf
        replace HB := Lib.hid (Below.next (Nat.le_refl _) HB.out hbb)
        clear hlb hib hbb HA
        go_wp2_with fail
        refine (same3_p HS.out.1 HS.out.2.1 HS.out.2.2.1 HS.out.2.2.2 (fun hk => rfl) (by omega)).mono ?_
        rintro _ wc ⟨rfl, hbc⟩
        replace hf := Below.hold hbc hf
        replace HB := Lib.hid (Below.next (Nat.le_refl _) HB.out hbc)
        clear hbc HS hlen
        go_wp2
        go_ret
        exact ⟨by simp, HB.out⟩
    · have hd2 : decide (b.length ≤ 24) = false := decide_eq_false ht
      go_enter Try.func4, Try.ntmps4
      go_upto_region 2 with (first | (go_at_call 12; refine (awake3_u _).mono ?_; rintro _ w1 ⟨rfl, hb1⟩) | (go_at_call 13; refine (few3_u _ _ _ _ (by omega)).mono ?_; rintro _ _ ⟨rfl, rfl⟩))
      have HB := Lib.hid hb1
      clear hb1
      go_wp2_with (first | (go_at_call 12; refine (awake3_u _).mono ?_; rintro _ w1 ⟨rfl, hb1⟩))
      go_ret
      exact ⟨rfl, Below.next (Nat.le_refl _) HB.out hb1⟩
  · have hd : decide (a.length ≤ 24) = false := decide_eq_false hs
    go_enter Try.func4, Try.ntmps4
    go_upto_region 2 with (first | (go_at_call 12; refine (awake3_u _).mono ?_; rintro _ w1 ⟨rfl, hb1⟩) | (go_at_call 13; refine (few3_u _ _ _ _ (by omega)).mono ?_; rintro _ _ ⟨rfl, rfl⟩))
    have HB := Lib.hid hb1
    clear hb1
    go_wp2_with (first | (go_at_call 12; refine (awake3_u _).mono ?_; rintro _ w1 ⟨rfl, hb1⟩))
    go_ret
    exact ⟨rfl, Below.next (Nat.le_refl _) HB.out hb1⟩

theorem len_add {p : Int} (hk : known p = true) {a b r : List Int} {m n : Nat} (ha : (cut0 (a.map (rd p))).length = m + 1) (hb : (cut0 (b.map (rd p))).length = n + 1) (hr : Is p r (Po.cv (pf p a) (pf p b))) : r.length = m + n + 1 := by
  have h1 := (is_trim p a).top hk ha
  have h2 := (is_trim p b).top hk hb
  have h3 := Po.deg_cv h1.2 h2.2
  have h4 : r.length ≤ m + n + 1 := hr.len h3.2
  refine Nat.le_antisymm h4 (Nat.lt_of_not_le fun hle => ?_)
  have h5 := pf_deg hk r (m + n) hle
  rw [hr.pf hk, h3.1] at h5
  rcases (fld hk).no h5 with h | h
  · exact h1.1 h
  · exact h2.1 h
theorem cut_nil {p : Int} {a : List Int} (h : (cut0 (a.map (rd p))).length = 0) : known p = true → pf p a = Po.ze := fun hk => by
  have e : cut0 (a.map (rd p)) = [] := List.length_eq_zero_iff.1 h
  have := (is_trim p a).pf hk
  rw [← this, e, pf_nil hk]
theorem nf_same {p : Int} {r : List Int} {f : Nat → Fin (Q p)} (h : Is p r f) : cut0 (r.map (rd p)) = r := (is_trim p r).same h fun hk => h.pf hk

set_option maxRecDepth 100000 in
set_option maxHeartbeats 8000000 in
theorem law_pmul (p : Int) [hU : U p] (va0 vb0 : Value) (a b : List Int) (w : World) (hla0 : Lst w va0 a) (hlb0 : Lst w vb0 b) (hna : a.length ≤ 9223372036854775807) (hnb : b.length ≤ 9223372036854775807) :
    Calls Try.prog 5 #[.int .u64 p, va0, vb0] w fun e w' => e = .returned (.bool true) ∧ Below w.heap.size w w' := by
  obtain ⟨a0, c0, rfl⟩ := hla0.shape
  obtain ⟨a1, c1, rfl⟩ := hlb0.shape
  have HL := Lib.hid hla0
  have HM := Lib.hid hlb0
  clear hla0 hlb0
  by_cases hs : a.length ≤ 24
  · have hd : decide (a.length ≤ 24) = true := decide_eq_true hs
    by_cases ht : b.length ≤ 24
    · have hd2 : decide (b.length ≤ 24) = true := decide_eq_true ht
      obtain ⟨m, hm⟩ : ∃ m, m = (cut0 (a.map (rd p))).length := ⟨_, rfl⟩
      obtain ⟨n, hn⟩ : ∃ n, n = (cut0 (b.map (rd p))).length := ⟨_, rfl⟩
      have hml : m ≤ 24 := by rw [hm]; have := cut0_len (a.map (rd p)); rw [List.length_map] at this; omega
      have hnl : n ≤ 24 := by rw [hn]; have := cut0_len (b.map (rd p)); rw [List.length_map] at this; omega
      have HMN := Lib.hid (And.intro hm hn)
      clear hm hn
      have hmi : (m : Int) ≤ 24 := by omega
      have hni : (n : Int) ≤ 24 := by omega
      go_enter Try.func5, Try.ntmps5
      go_upto_region 4 with (first | (go_at_call 12; refine (awake3_u _).mono ?_; rintro _ w1 ⟨rfl, hb1⟩) | (go_at_call 13; refine (few3_u _ _ _ _ (by omega)).mono ?_; rintro _ _ ⟨rfl, rfl⟩))
      refine name_world ?_
      intro W hW
      have hb : Below w.heap.size w W := by rw [hW]; exact Below.made (Nat.le_refl _) hb1 _
      have hf : W.cell? ⟨w1.heap.size, 0, none⟩ = some (.int .u64 p) := by rw [hW]; go_simp
      have HB := Lib.hid hb
      clear hW hb hb1
      go_wp2_with fail
      refine (oMul_p p _ _ a b _ (HL.out.hold HB.out) (HM.out.hold HB.out) (by omega) (by omega)).mono ?_
      rintro _ wa ⟨va, ra, rfl, hla, hia, hba⟩
      replace hf := Below.hold hba hf
      replace HB := Lib.hid (Below.next (Nat.le_refl _) HB.out hba)
      have hral : ra.length ≤ 48 := hia.bound fun hk => (mul_deg hk a b).mono (by omega)
      obtain ⟨a2, c2, rfl⟩ := hla.shape
      have HA := Lib.hid (And.intro hla hia)
      clear hla hia hba
      go_wp2_with fail
      refine (sDegree_u p _ a _ (HL.out.hold HB.out) (by omega)).mono ?_
      rintro _ wb ⟨rfl, hbb⟩
      rw [← HMN.out.1]
      replace hf := Below.hold hbb hf
      replace HB := Lib.hid (Below.next (Nat.le_refl _) HB.out hbb)
      have HA1 := Lib.hid (HA.out.1.hold hbb)
      clear hbb
      go_wp2_with fail
      refine (sDegree_u p _ b _ (HM.out.hold HB.out) (by omega)).mono ?_
      rintro _ wc ⟨rfl, hbc⟩
      rw [← HMN.out.2]
      replace hf := Below.hold hbc hf
      replace HB := Lib.hid (Below.next (Nat.le_refl _) HB.out hbc)
      have HA2 := Lib.hid (HA1.out.hold hbc)
      clear hbc HA1
      have hz : m = 0 ∨ n = 0 → ra.length = 0 := fun h => Nat.le_zero.1 (HA.out.2.bound fun hk => by
        rcases h with h | h
        · rw [cut_nil (HMN.out.1.symm.trans h) hk, Po.ze_cv]; exact Po.deg_ze 0
        · rw [cut_nil (HMN.out.2.symm.trans h) hk, Po.cv_ze]; exact Po.deg_ze 0)
      by_cases hmd : (m : Int) - 1 < 0
      · have hl0 := hz (Or.inl (by omega))
        go_wp2
        go_ret
        exact ⟨rfl, HB.out⟩
      · by_cases hnd : (n : Int) - 1 < 0
        · have hl0 := hz (Or.inr (by omega))
          go_wp2
          go_ret
          exact ⟨rfl, HB.out⟩
        · have hdeg : ((cut0 (ra.map (rd p))).length : Int) - 1 = ((m : Int) - 1) + ((n : Int) - 1) := by
            cases hk : known p with
            | false =>
              have e1 := is_trim p a
              unfold Is at e1
              rw [hk] at e1
              have e2 := HMN.out.1
              rw [show cut0 (a.map (rd p)) = [] from e1] at e2
              have e3 : m = 0 := e2
              omega
            | true =>
              rw [nf_same HA.out.2]
              have e3 := len_add hk (m := m - 1) (n := n - 1) (by rw [← HMN.out.1]; omega) (by rw [← HMN.out.2]; omega) HA.out.2
              rw [e3]
              omega
          have HD := Lib.hid hdeg
          clear hdeg hz
          go_wp2_with fail
          refine (sMul_p p _ _ a b _ (HL.out.hold HB.out) (HM.out.hold HB.out) (by omega) (by omega)).mono ?_
          rintro _ wd ⟨vd, rd1, rfl, hld, hid1, hbd⟩
          replace hf := Below.hold hbd hf
          replace HB := Lib.hid (Below.next (Nat.le_refl _) HB.out hbd)
          have H3 := Lib.hid (And.intro (HA2.out.hold hbd) (And.intro hld.lst hid1))
          clear hld hid1 hbd HA2
          go_wp2_with fail
          refine (same3_p H3.out.1 H3.out.2.1 HA.out.2 H3.out.2.2 (fun _ => rfl) (by omega)).mono ?_
          rintro _ we ⟨rfl, hbe⟩
          replace hf := Below.hold hbe hf
          replace HB := Lib.hid (Below.next (Nat.le_refl _) HB.out hbe)
          have HA3 := Lib.hid (H3.out.1.hold hbe)
          clear hbe H3
          go_wp2_with fail
          refine (oMul_p p _ _ b a _ (HM.out.hold HB.out) (HL.out.hold HB.out) (by omega) (by omega)).mono ?_
          rintro _ wf ⟨vf, rf, rfl, hlf, hif, hbf⟩
          replace hf := Below.hold hbf hf
          replace HB := Lib.hid (Below.next (Nat.le_refl _) HB.out hbf)
          have hrfl : rf.length ≤ 48 := hif.bound fun hk => (mul_deg hk b a).mono (by omega)
          have H4 := Lib.hid (And.intro (HA3.out.hold hbf) (And.intro hlf hif))
          clear hlf hif hbf HA3
          go_wp2_with fail
          refine (same3_p H4.out.2.1 H4.out.1 H4.out.2.2 HA.out.2 (fun _ => Po.cv_comm _ _) (by omega)).mono ?_
          rintro _ wg ⟨rfl, hbg⟩
          replace hf := Below.hold hbg hf
          replace HB := Lib.hid (Below.next (Nat.le_refl _) HB.out hbg)
          have HA5 := Lib.hid (H4.out.1.hold hbg)
          clear hbg H4
          go_wp2_with fail
          refine (oDegree_u p _ ra _ HA5.out (by omega)).mono ?_
          rintro _ wh ⟨rfl, hbh⟩
          rw [HD.out]
          replace hf := Below.hold hbh hf
          replace HB := Lib.hid (Below.next (Nat.le_refl _) HB.out hbh)
          clear hbh
          go_wp2
          go_ret
          exact ⟨by simp, HB.out⟩
    · have hd2 : decide (b.length ≤ 24) = false := decide_eq_false ht
      go_enter Try.func5, Try.ntmps5
      go_upto_region 2 with (first | (go_at_call 12; refine (awake3_u _).mono ?_; rintro _ w1 ⟨rfl, hb1⟩) | (go_at_call 13; refine (few3_u _ _ _ _ (by omega)).mono ?_; rintro _ _ ⟨rfl, rfl⟩))
      have HB := Lib.hid hb1
      clear hb1
      go_wp2_with (first | (go_at_call 12; refine (awake3_u _).mono ?_; rintro _ w1 ⟨rfl, hb1⟩))
      go_ret
      exact ⟨rfl, Below.next (Nat.le_refl _) HB.out hb1⟩
  · have hd : decide (a.length ≤ 24) = false := decide_eq_false hs
    go_enter Try.func5, Try.ntmps5
    go_upto_region 2 with (first | (go_at_call 12; refine (awake3_u _).mono ?_; rintro _ w1 ⟨rfl, hb1⟩) | (go_at_call 13; refine (few3_u _ _ _ _ (by omega)).mono ?_; rintro _ _ ⟨rfl, rfl⟩))
    have HB := Lib.hid hb1
    clear hb1
    go_wp2_with (first | (go_at_call 12; refine (awake3_u _).mono ?_; rintro _ w1 ⟨rfl, hb1⟩))
    go_ret
    exact ⟨rfl, Below.next (Nat.le_refl _) HB.out hb1⟩
end Go.Proofs.Ytgdnkbigdggbaaa
