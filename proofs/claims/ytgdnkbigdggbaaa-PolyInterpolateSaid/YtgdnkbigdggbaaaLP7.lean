/- The walk of the statement on the greatest common divisor. -/
import Derived.Test.YtgdnkbigdggbaaaLP6
import Derived.Deep.DeepCutAuto
namespace Go.Proofs.Ytgdnkbigdggbaaa
open Go.RowKit Go.BigFrame

namespace Po
variable {q : Nat} [NeZero q]
theorem gcd_deg {A B g : Nat → Fin q} {n : Nat} (hg : GcdOf A B g) (ha : Deg A n) (hb : Deg B n) : Deg g n := by
  rcases hg.top with e | ⟨k, hk, hk1⟩
  · rw [e]; exact deg_ze n
  · have key : ∀ {X : Nat → Fin q}, Dv g X → Deg X n → X = ze ∨ k + 1 ≤ n := by
      rintro X ⟨u, m, hu, e⟩ hX
      rcases lead hu with e0 | ⟨j, hj, hju, hne⟩
      · left; rw [← e, e0]; exact ze_cv g
      · right
        have h1 := (deg_cv hju hk).1
        rw [e, hk1] at h1
        refine Nat.lt_of_not_le fun hle => hne ?_
        have h0 := hX (j + k) (by omega)
        rw [h1] at h0
        grind
    rcases key hg.da ha with e | e
    · rcases key hg.db hb with e' | e'
      · rw [gcd_of_zero hg e e']; exact deg_ze n
      · exact hk.mono e'
    · exact hk.mono e
theorem div_dv (h : Fld q) {f b u r : Nat → Fin q} {n : Nat} (hu : Deg u n) (hd : DivOf f b u r) (hv : Dv b f) : r = ze := by
  obtain ⟨v, m, hv, e⟩ := hv
  obtain ⟨_, k, hb, hk, _⟩ := id hd
  exact (DivOf.unique h hu hv hd ⟨by rw [e, ad_ze], k, hb, hk, deg_ze k⟩).2
end Po
theorem quot_dv {p : Int} (hk : known p = true) {f b : Nat → Fin (Q p)} {r1 r2 : List Int} (h : ∃ u r, Is p r1 u ∧ Is p r2 r ∧ Po.DivOf f b u r) (hv : Po.Dv b f) : r2 = [] := by
  obtain ⟨u, r, h1, h2, h3⟩ := h
  have hd : Po.Deg u r1.length := by rw [← h1.pf hk]; exact pf_deg hk _
  have h4 := Po.div_dv (fld hk) hd h3 hv
  rw [h4] at h2
  exact List.length_eq_zero_iff.1 (Nat.le_zero.1 (h2.len (Po.deg_ze 0)))
theorem is_zero {p : Int} {r : List Int} {f : Nat → Fin (Q p)} (h : Is p r f) (e : known p = true → f = Po.ze) : r = [] :=
  List.length_eq_zero_iff.1 (Nat.le_zero.1 (h.bound fun hk => by rw [e hk]; exact Po.deg_ze 0))
/-- What the statement knows of the two products and their greatest common divisor. -/
structure GcdL (p : Int) (a b c r1 r2 r3 : List Int) (g : Nat → Fin (Q p)) : Prop where
  i1 : Is p r1 (Po.cv (pf p a) (pf p c))
  i2 : Is p r2 (Po.cv (pf p b) (pf p c))
  i3 : Is p r3 g
  top : known p = true → Po.GcdOf (pf p r1) (pf p r2) g
theorem GcdL.both {p : Int} {a b c r1 r2 r3 : List Int} {g : Nat → Fin (Q p)} (h : GcdL p a b c r1 r2 r3 g) (e : r3 = []) : r1 = [] ∧ r2 = [] := by
  have key : known p = true → pf p r1 = Po.ze ∧ pf p r2 = Po.ze := fun hk => Po.gcd_zero (h.top hk) (by rw [← h.i3.pf hk, e, pf_nil hk])
  exact ⟨is_zero h.i1 fun hk => by rw [← h.i1.pf hk]; exact (key hk).1, is_zero h.i2 fun hk => by rw [← h.i2.pf hk]; exact (key hk).2⟩
theorem GcdL.more {p : Int} {a b c r1 r2 r3 : List Int} {g : Nat → Fin (Q p)} (h : GcdL p a b c r1 r2 r3 g) (e : r3 ≠ []) : known p = true ∧ pf p r3 ≠ Po.ze := by
  cases hk : known p with
  | false => have := h.i3; unfold Is at this; rw [hk] at this; exact absurd this e
  | true => exact ⟨rfl, fun e2 => e (is_zero h.i3 fun _ => by rw [← h.i3.pf hk, e2])⟩
theorem GcdL.len {p : Int} {a b c r1 r2 r3 : List Int} {g : Nat → Fin (Q p)} (h : GcdL p a b c r1 r2 r3 g) {n : Nat} (h1 : r1.length ≤ n) (h2 : r2.length ≤ n) : r3.length ≤ n :=
  h.i3.bound fun hk => Po.gcd_deg (h.top hk) ((pf_deg hk r1).mono h1) ((pf_deg hk r2).mono h2)
theorem GcdL.dv {p : Int} {a b c r1 r2 r3 : List Int} {g : Nat → Fin (Q p)} (h : GcdL p a b c r1 r2 r3 g) (hk : known p = true) : Po.Dv (pf p r3) (pf p r1) ∧ Po.Dv (pf p r3) (pf p r2) ∧ Po.Dv (pf p c) (pf p r3) := by
  rw [h.i3.pf hk]
  have ht := h.top hk
  exact ⟨ht.da, ht.db, ht.comb.dv ⟨_, _, pf_deg hk a, (h.i1.pf hk).symm⟩ ⟨_, _, pf_deg hk b, (h.i2.pf hk).symm⟩⟩

set_option maxRecDepth 100000 in
set_option maxHeartbeats 16000000 in
theorem law_pgcd (p : Int) [hU : U p] (va0 vb0 vc0 : Value) (a b c : List Int) (w : World) (hla0 : Lst w va0 a) (hlb0 : Lst w vb0 b) (hlc0 : Lst w vc0 c) :
    Calls Try.prog 8 #[.int .u64 p, .agg #[va0, vb0], vc0] w fun e w' => e = .returned (.bool true) ∧ Below w.heap.size w w' := by
  obtain ⟨a0, c0, rfl⟩ := hla0.shape
  obtain ⟨a1, c1, rfl⟩ := hlb0.shape
  obtain ⟨a2, c2, rfl⟩ := hlc0.shape
  have HL := Lib.hid hla0
  have HM := Lib.hid hlb0
  have HC := Lib.hid hlc0
  clear hla0 hlb0 hlc0
  by_cases hs : a.length ≤ 10
  · have hd : ¬ (10 : Int) < (a.length : Int) := by omega
    by_cases ht : b.length ≤ 10
    · have hd2 : ¬ (10 : Int) < (b.length : Int) := by omega
      by_cases hc : c.length ≤ 10
      · have hd3 : ¬ (10 : Int) < (c.length : Int) := by omega
        go_enter Try.func8, Try.ntmps8
        go_upto_region 4 with (go_at_call 12; refine (awake3_u _).mono ?_; rintro _ w1 ⟨rfl, hb1⟩; have k0 : w1.cell? ⟨w.heap.size, 0, none⟩ = some (.slice a0 a.length c0) := Below.hold hb1 (by go_simp); have k1 : w1.cell? ⟨w.heap.size, 1, none⟩ = some (.slice a1 b.length c1) := Below.hold hb1 (by go_simp))
        refine name_world ?_
        intro W hW
        have hb0 : Below w.heap.size w w1 := Below.next (Nat.le_refl _) (Below.made (Nat.le_refl _) (Below.refl _ _) _) hb1
        have hb : Below w.heap.size w W := by rw [hW]; exact Below.made (Nat.le_refl _) hb0 _
        have hf : W.cell? ⟨w1.heap.size, 0, none⟩ = some (.int .u64 p) := by rw [hW]; go_simp
        have g0 : W.cell? ⟨w.heap.size, 0, none⟩ = some (.slice a0 a.length c0) := by rw [hW]; exact Below.hold (Below.made (Nat.le_refl _) (Below.refl _ _) _) k0
        have g1 : W.cell? ⟨w.heap.size, 1, none⟩ = some (.slice a1 b.length c1) := by rw [hW]; exact Below.hold (Below.made (Nat.le_refl _) (Below.refl _ _) _) k1
        have HB := Lib.hid hb
        have HA := Lib.hid (And.intro (HL.out.hold hb) (And.intro (HM.out.hold hb) (HC.out.hold hb)))
        clear hW hb hb0 hb1 k0 k1
        go_cut [8, 9] (fun s8 s9 wx => Below W.heap.size W wx ∧ ∃ r1 r2, Lst wx s8 r1 ∧ Lst wx s9 r2 ∧ Is p r1 (Po.cv (pf p a) (pf p c)) ∧ Is p r2 (Po.cv (pf p b) (pf p c)))
        case first =>
          have G0 := fun (w' : World) (h : Below W.heap.size W w') => Below.hold h g0
          have G1 := fun (w' : World) (h : Below W.heap.size W w') => Below.hold h g1
          have F := Below.refl W.heap.size W
          clear g0 g1
          go_region_held3 (fun w' => Below W.heap.size W w')
            (repeat (first | assumption | refine Below.drew ?_ | refine Below.next (Nat.le_refl _) ?_ (by assumption)))
            (first
              | (go_at_call 26; refine (sMul_p p _ _ _ c _ (by first | exact HA.out.1.hold (by assumption) | exact HA.out.2.1.hold (by assumption)) (HA.out.2.2.hold (by assumption)) (by omega) (by omega)).mono ?_; rintro _ w2 ⟨vX, rX, rfl, hlX, hiX, hb2⟩; replace hlX := hlX.lst; first | (have hiA : Is p rX (Po.cv (pf p a) (pf p c)) := hiX; have hlA := hlX) | (have hiY : Is p rX (Po.cv (pf p b) (pf p c)) := hiX; have hlY := hlX)))
          all_goals
            go_wp2_with fail
            go_meet
            exact ⟨by assumption, _, _, hlA.hold (by repeat (first | assumption | exact Below.refl _ _ | refine Below.drew ?_ | refine Below.next (Nat.le_refl _) ?_ (by assumption))), hlY.hold (by repeat (first | assumption | exact Below.refl _ _ | refine Below.drew ?_ | refine Below.next (Nat.le_refl _) ?_ (by assumption))), hiA, hiY⟩
        case rest =>
          rename World => wx
          obtain ⟨hbx, r1, r2, hl1, hl2, hi1, hi2⟩ := hcut
          have hf1 := Below.hold hbx hf
          have hn1 : r1.length ≤ 20 := hi1.bound fun hk => (mul_deg hk a c).mono (by omega)
          have hn2 : r2.length ≤ 20 := hi2.bound fun hk => (mul_deg hk b c).mono (by omega)
          obtain ⟨a3, c3, rfl⟩ := hl1.shape
          obtain ⟨a4, c4, rfl⟩ := hl2.shape
          replace HB := Lib.hid (Below.next (Nat.le_refl _) HB.out hbx)
          replace HC := Lib.hid (HC.out.hold HB.out)
          have HQ := Lib.hid (And.intro hl1 hl2)
          have HI := Lib.hid (And.intro hi1 hi2)
          clear g0 g1 hf hbx hl1 hl2 hi1 hi2 HA
          go_wp2_with fail
          refine (oGCD_p p _ _ r1 r2 _ HQ.out.1 HQ.out.2 (by omega) (by omega)).mono ?_
          rintro _ w2 ⟨v3, r3, g, rfl, hl3, hi3, ht3, hb2⟩
          have HG := Lib.hid (GcdL.mk (a := a) (b := b) (c := c) HI.out.1 HI.out.2 hi3 ht3)
          have hn3 := HG.out.len hn1 hn2
          obtain ⟨a5, c5, rfl⟩ := hl3.shape
          replace HB := Lib.hid (Below.next (Nat.le_refl _) HB.out hb2)
          replace HC := Lib.hid (HC.out.hold hb2)
          have HP := Lib.hid (And.intro (HQ.out.1.hold hb2) (And.intro (HQ.out.2.hold hb2) hl3))
          clear hb2 hl3 hi3 ht3 HQ HI hf1
          go_wp2_with fail
          refine (sGCD_p p _ _ r1 r2 _ HP.out.1 HP.out.2.1 (by omega) (by omega)).mono ?_
          rintro _ w3 ⟨v4, r4, g', rfl, hown4, hi4, ht4, hb3⟩
          replace HB := Lib.hid (Below.next (Nat.le_refl _) HB.out hb3)
          replace HC := Lib.hid (HC.out.hold hb3)
          replace HP := Lib.hid (And.imp (·.hold hb3) (And.imp (·.hold hb3) (·.hold hb3)) HP.out)
          have H4 := Lib.hid (And.intro hown4.lst (And.intro hi4 ht4))
          clear hb3 hown4 hi4 ht4
          go_wp2_with fail
          refine (same3_p HP.out.2.2 H4.out.1 HG.out.i3 H4.out.2.1 (fun hk => (HG.out.top hk).unique (H4.out.2.2 hk)) (by omega)).mono ?_
          rintro _ w4 ⟨rfl, hb4⟩
          replace HB := Lib.hid (Below.next (Nat.le_refl _) HB.out hb4)
          replace HC := Lib.hid (HC.out.hold hb4)
          replace HP := Lib.hid (And.imp (·.hold hb4) (And.imp (·.hold hb4) (·.hold hb4)) HP.out)
          clear hb4 H4
          by_cases h0 : r3 = []
          · have l1 : r1.length = 0 := by rw [(HG.out.both h0).1]; rfl
            have l2 : r2.length = 0 := by rw [(HG.out.both h0).2]; rfl
            have l3 : r3.length = 0 := by rw [h0]; rfl
            clear h0
            go_wp2
            go_ret
            exact ⟨rfl, HB.out⟩
          · have hpos : ¬ r3.length = 0 := fun e => h0 (List.length_eq_zero_iff.1 e)
            have hpi : ¬ (r3.length : Int) = 0 := by omega
            have HK := Lib.hid (HG.out.more h0)
            have HD := Lib.hid (HG.out.dv HK.out.1)
            clear h0
            go_wp2_with fail
            refine (sDivMod_p p HK.out.1 _ _ r1 r3 _ HP.out.1 HP.out.2.2 (by omega) (by omega) HK.out.2).mono ?_
            rintro _ wd ⟨vd, ve, d1, d2, rfl, -, hown, hdiv, -, -, hbd⟩
            obtain rfl := quot_dv HK.out.1 hdiv HD.out.1
            obtain ⟨a6, c6, rfl⟩ : ∃ a c, ve = .slice a 0 c := hown.lst.shape
            replace HB := Lib.hid (Below.next (Nat.le_refl _) HB.out hbd)
            replace HC := Lib.hid (HC.out.hold hbd)
            replace HP := Lib.hid (And.imp (·.hold hbd) (And.imp (·.hold hbd) (·.hold hbd)) HP.out)
            clear hown hdiv hbd
            go_wp2_with fail
            refine (sDivMod_p p HK.out.1 _ _ r2 r3 _ HP.out.2.1 HP.out.2.2 (by omega) (by omega) HK.out.2).mono ?_
            rintro _ wd ⟨vd, ve, d1, d2, rfl, -, hown, hdiv, -, -, hbd⟩
            obtain rfl := quot_dv HK.out.1 hdiv HD.out.2.1
            obtain ⟨a7, c7, rfl⟩ : ∃ a c, ve = .slice a 0 c := hown.lst.shape
            replace HB := Lib.hid (Below.next (Nat.le_refl _) HB.out hbd)
            replace HC := Lib.hid (HC.out.hold hbd)
            replace HP := Lib.hid (And.imp (·.hold hbd) (And.imp (·.hold hbd) (·.hold hbd)) HP.out)
            clear hown hdiv hbd
            go_wp2_with fail
            refine (sDegree_u p _ c _ HC.out (by omega)).mono ?_
            rintro _ w5 ⟨rfl, hb5⟩
            replace HB := Lib.hid (Below.next (Nat.le_refl _) HB.out hb5)
            replace HC := Lib.hid (HC.out.hold hb5)
            replace HP := Lib.hid (And.imp (·.hold hb5) (And.imp (·.hold hb5) (·.hold hb5)) HP.out)
            clear hb5
            by_cases hz : pf p c = Po.ze
            · rw [cut_zero hz]
              clear hz
              go_wp2
              go_ret
              exact ⟨rfl, HB.out⟩
            · obtain ⟨n, hn, hcn⟩ := cut_pos hz HK.out.1
              have hni : ¬ (n : Int) < 0 := by omega
              have HZ := Lib.hid hz
              rw [hcn]
              clear hz hcn
              go_wp2_with fail
              refine (sDivMod_p p HK.out.1 _ _ r3 c _ HP.out.2.2 HC.out (by omega) (by omega) HZ.out).mono ?_
              rintro _ wd ⟨vd, ve, d1, d2, rfl, -, hown, hdiv, -, -, hbd⟩
              obtain rfl := quot_dv HK.out.1 hdiv HD.out.2.2
              obtain ⟨a8, c8, rfl⟩ : ∃ a c, ve = .slice a 0 c := hown.lst.shape
              replace HB := Lib.hid (Below.next (Nat.le_refl _) HB.out hbd)
              replace HC := Lib.hid (HC.out.hold hbd)
              replace HP := Lib.hid (And.imp (·.hold hbd) (And.imp (·.hold hbd) (·.hold hbd)) HP.out)
              clear hown hdiv hbd
              go_wp2
              go_ret
              exact ⟨rfl, HB.out⟩
      · have hd3 : (10 : Int) < (c.length : Int) := by omega
        go_enter Try.func8, Try.ntmps8
        go_upto_region 2 with (go_at_call 12; refine (awake3_u _).mono ?_; rintro _ w1 ⟨rfl, hb1⟩; have k0 : w1.cell? ⟨w.heap.size, 0, none⟩ = some (.slice a0 a.length c0) := Below.hold hb1 (by go_simp); have k1 : w1.cell? ⟨w.heap.size, 1, none⟩ = some (.slice a1 b.length c1) := Below.hold hb1 (by go_simp))
        have HB := Lib.hid (Below.next (Nat.le_refl _) (Below.made (Nat.le_refl _) (Below.refl _ _) _) hb1)
        clear hb1 k0 k1
        go_wp2_with (first | (go_at_call 12; refine (awake3_u _).mono ?_; rintro _ w1 ⟨rfl, hb1⟩))
        go_ret
        exact ⟨rfl, Below.next (Nat.le_refl _) HB.out hb1⟩
    · have hd2 : (10 : Int) < (b.length : Int) := by omega
      go_enter Try.func8, Try.ntmps8
      go_upto_region 2 with (go_at_call 12; refine (awake3_u _).mono ?_; rintro _ w1 ⟨rfl, hb1⟩; have k0 : w1.cell? ⟨w.heap.size, 0, none⟩ = some (.slice a0 a.length c0) := Below.hold hb1 (by go_simp); have k1 : w1.cell? ⟨w.heap.size, 1, none⟩ = some (.slice a1 b.length c1) := Below.hold hb1 (by go_simp))
      have HB := Lib.hid (Below.next (Nat.le_refl _) (Below.made (Nat.le_refl _) (Below.refl _ _) _) hb1)
      clear hb1 k0 k1
      go_wp2_with (first | (go_at_call 12; refine (awake3_u _).mono ?_; rintro _ w1 ⟨rfl, hb1⟩))
      go_ret
      exact ⟨rfl, Below.next (Nat.le_refl _) HB.out hb1⟩
  · have hd : (10 : Int) < (a.length : Int) := by omega
    go_enter Try.func8, Try.ntmps8
    go_upto_region 2 with (go_at_call 12; refine (awake3_u _).mono ?_; rintro _ w1 ⟨rfl, hb1⟩; have k0 : w1.cell? ⟨w.heap.size, 0, none⟩ = some (.slice a0 a.length c0) := Below.hold hb1 (by go_simp); have k1 : w1.cell? ⟨w.heap.size, 1, none⟩ = some (.slice a1 b.length c1) := Below.hold hb1 (by go_simp))
    have HB := Lib.hid (Below.next (Nat.le_refl _) (Below.made (Nat.le_refl _) (Below.refl _ _) _) hb1)
    clear hb1 k0 k1
    go_wp2_with (first | (go_at_call 12; refine (awake3_u _).mono ?_; rintro _ w1 ⟨rfl, hb1⟩))
    go_ret
    exact ⟨rfl, Below.next (Nat.le_refl _) HB.out hb1⟩
end Go.Proofs.Ytgdnkbigdggbaaa
