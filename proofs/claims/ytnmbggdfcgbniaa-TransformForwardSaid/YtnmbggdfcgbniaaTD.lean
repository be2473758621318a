/- The walk of the reference's Interpolate (04). -/
import Derived.Test.YtnmbggdfcgbniaaTC
namespace Go.Proofs.Ytnmbggdfcgbniaa
open Go.RowKit Go.BigFrame
open Classical

/-- The value at a power of the root. -/
def tval (p : Int) (v : List Int) (j : Nat) : Fin (Q p) := Po.ev (pf p v) (Po.pwF (ph p (rtw p v.length)) j) v.length
/-- The factor of the i-th coefficient. -/
def tfac (p s : Int) (n i : Nat) : Fin (Q p) := ph p (iv p n) * Po.pwF (ph p (iv p (s % p))) i
/-- The coefficients. -/
def intL (p s : Int) (v : List Int) : List Int := (List.range v.length).map fun i => ival p (tval p v ((v.length - i) % v.length) * tfac p s v.length i)
noncomputable def resI (p s : Int) (v : List Int) : List Int := if errD p s v.length = 0 then intL p s v else []
/-- The values in the reverse order. -/
def revL (p : Int) (v : List Int) : List Int := (List.range v.length).map fun i => ival p (tval p v ((v.length - i) % v.length))
theorem revL_len (p : Int) (v : List Int) : (revL p v).length = v.length := by simp [revL]
theorem revL_at {p : Int} {v : List Int} {i : Nat} (h : i < (revL p v).length) : (revL p v)[i] = ival p (tval p v ((v.length - i) % v.length)) := by simp [revL]
theorem dpt_one {p : Int} (hk : known p = true) (n : Int) (i : Nat) : dpt p 1 n i = Po.pwF (ph p (rtw p n)) i := by
  show ph p 1 * Po.pwF _ i = _
  rw [ph_one hk]; grind
theorem evL_at {p : Int} (hk : known p = true) (v : List Int) {i : Nat} (h : i < v.length) : (evL p v 1 v.length)[i]'(by simp [evL]; exact h) = ival p (tval p v i) := by
  simp only [evL, List.getElem_map, List.getElem_range, dpt_one hk]
  rfl
theorem evL_len (p : Int) (a : List Int) (s : Int) (n : Nat) : (evL p a s n).length = n := by simp [evL]
theorem one_mod {p : Int} (hk : known p = true) : (1 : Int) % p ≠ 0 := by
  have := known_lo hk
  rw [Int.emod_eq_of_lt (by omega) (by omega)]; decide
theorem tfac_succ {p : Int} (hk : known p = true) (s : Int) (n i : Nat) : ml p (ival p (tfac p s n i)) (iv p (s % p)) = ival p (tfac p s n (i + 1)) := by
  rw [ival_mul hk, ph_ival hk]
  congr 1
  show ph p (iv p n) * Po.pwF _ i * ph p (iv p (s % p)) = ph p (iv p n) * (Po.pwF _ i * ph p (iv p (s % p)))
  grind
theorem tfac_zero {p : Int} (hk : known p = true) (s : Int) (n : Nat) : iv p n = ival p (tfac p s n 0) := by
  refine ival_of (fun _ => ⟨?_, ?_⟩) fun h => by rw [hk] at h; cases h
  · have := known_lo hk
    show 0 ≤ pw p _ _ ∧ pw p _ _ < p
    rw [pw, if_pos hk]
    exact ⟨Int.emod_nonneg _ (by omega), Int.emod_lt_of_pos _ (by omega)⟩
  · show _ = ph p (iv p n) * 1
    grind
theorem updK_intL {p : Int} (hk : known p = true) (s : Int) (v : List Int) : updK (fun i => ml p ((revL p v).getD i 0) (ival p (tfac p s v.length i))) (revL p v) 0 (revL p v).length = intL p s v := by
  refine List.ext_getElem (by rw [updK_len, revL_len]; simp [intL]) fun i h1 h2 => ?_
  rw [updK_len] at h1
  simp only [updK, intL, List.getElem_map, List.getElem_range]
  rw [if_pos (by omega), getD_lt _ h1, revL_at h1, ival_mul hk, ph_ival hk, ph_ival hk]

set_option maxRecDepth 100000 in
set_option maxHeartbeats 8000000 in
theorem uInterpolate_u (p s : Int) [hU : U p] [hs : U s] (va : Value) (a : List Int) (w : World) (hla : Lst w va a) (hna : a.length ≤ 100000) :
    Calls Try.prog 14 #[.int .u64 p, va, .int .u64 s] w (Pair w (resI p s a) (errD p s a.length)) := by
  obtain ⟨a0, c0, rfl⟩ := hla.shape
  have HL := Lib.hid hla
  clear hla
  by_cases he : errD p s a.length = 0
  · have hk := (errD_zero.1 he).1.1.1
    have hn4 := (errD_zero.1 he).1.2
    have hnp := (errD_zero.1 he).1.1.2.1
    have hpl := known_lo hk
    have hph := known_hi hk
    have hp0 : ¬ p = 0 := by omega
    have hp1 : (p == 0) = false := by simpa using hp0
    have hs0 := hs.lo
    have hs1 := hs.hi
    have ht : s.tmod p = s % p := Int.tmod_eq_emod_of_nonneg hs0
    have hm0 := Int.emod_nonneg s hp0
    have hm1 := Int.emod_lt_of_pos s (show 0 < p by omega)
    have hwr : IntKind.u64.wrap (s % p) = s % p := by rw [IntKind.wrap_u64]; omega
    have hsU : U (s % p) := ⟨by omega, by omega⟩
    have hnU : U (a.length : Int) := ⟨by omega, by omega⟩
    have hnw : IntKind.u64.wrap (a.length : Int) = (a.length : Int) := by rw [IntKind.wrap_u64]; omega
    have h1 : errD p 1 a.length = 0 := errD_zero.2 ⟨(errD_zero.1 he).1, one_mod hk⟩
    have h2 : errE p a 1 a.length = 0 := by rw [errE, if_pos h1, if_pos (by omega)]
    have h3 : resE p a 1 a.length = evL p a 1 a.length := by rw [resE, if_pos h2]
    have h4 : resI p s a = intL p s a := by rw [resI, if_pos he]
    rw [he, h4]
    have HK := Lib.hid (And.intro hk (And.intro he (And.intro h2 h3)))
    have hn1 : (a.length : Int) ≤ 9223372036854775807 := by omega
    have hn0 : -9223372036854775808 ≤ (a.length : Int) := by omega
    clear h1 h2 h3 h4 he hk
    go_enter Try.func14, Try.ntmps14
    go_upto_region 6 with (first
      | (go_at_call 17; refine (uDomain_u p s a.length hn0 hn1 _).mono ?_; rintro _ w1 ⟨v1, rfl, hown1, hb1⟩; rw [HK.out.2.1])
      | (go_at_call 12; refine (uEvaluate_u p 1 a.length _ a _ (HL.out.hold hb1) (by omega) hn0 hn1).mono ?_; rintro _ w2 ⟨v2, rfl, hown2, hb2⟩; rw [HK.out.2.2.1]; rw [HK.out.2.2.2] at hown2))
    obtain ⟨N, hN⟩ : ∃ N, N = a.length := ⟨_, rfl⟩
    obtain ⟨E, hown2, hEl, hE⟩ : ∃ E : List Int, Own w2 w1.heap.size v2 E ∧ E.length = N ∧ ∀ i (h : i < E.length), E[i] = ival p (tval p a i) :=
      ⟨_, hown2, by rw [evL_len, hN], fun i h => evL_at HK.out.1 a (by rw [evL_len] at h; exact h)⟩
    obtain ⟨g, c, rfl⟩ : ∃ g c, v2 = .slice (some ⟨g, 0, none⟩) N c := by
      rcases hown2.cases with ⟨_, e⟩ | ⟨g, c, e, _⟩
      · rw [e] at hEl; simp at hEl; omega
      · rw [hEl] at e; exact ⟨g, c, e⟩
    obtain ⟨R, hRl, hR, hfin⟩ : ∃ R : List Int, R.length = N ∧ (∀ i (h : i < R.length), R[i] = ival p (tval p a ((N - i) % N))) ∧ updK (fun i => ml p (R.getD i 0) (ival p (tfac p s N i))) R 0 R.length = intL p s a :=
      ⟨revL p a, by rw [revL_len, hN], fun i h => by rw [revL_at h, hN], by have h := updK_intL HK.out.1 s a; rw [← hN] at h; exact h⟩
    have hz := tfac_zero HK.out.1 s N
    have hzs := fun i => tfac_succ HK.out.1 s N i
    have hx0 : U E[0] := hown2.us _ (List.getElem_mem (by omega))
    have hc0 := hown2.cell (i := 0) (by omega)
    have hR0 : R.take 1 = [E[0]] := by
      have h0 : 0 < R.length := by omega
      rw [take_snoc h0, hR 0 h0, hE 0 (by omega), Nat.sub_zero, Nat.mod_self]; rfl
    obtain ⟨x0, hx⟩ : ∃ x, x = E[0] := ⟨_, rfl⟩
    rw [← hx] at hx0 hc0 hR0
    have HM := Lib.hid (And.intro hEl (And.intro hE (And.intro hRl (And.intro hR (And.intro hfin (And.intro hz (And.intro hzs hR0)))))))
    have HO := Lib.hid (And.intro hown2 (Below.next (Nat.le_refl _) hb1 hb2))
    have hN4 : (N : Int) ≤ 4096 := by omega
    have hN1 : (1 : Int) ≤ (N : Int) := by omega
    have hNU : U (N : Int) := ⟨by omega, by omega⟩
    have hNw : IntKind.u64.wrap (N : Int) = (N : Int) := by rw [IntKind.wrap_u64]; omega
    rw [← hN]
    have HN := Lib.hid hN
    have hN2 : (N : Int) - 1 = ((N - 1 : Nat) : Int) := by omega
    clear hown2 hown1 hb1 hb2 hEl hE hRl hR hfin hz hzs hR0 hx hn4 hnp hnU hnw hn1 hn0 hN
    go_wp2
    go_loopw [13, 14] (fun rv jv wr => ∃ k : Nat, jv = .int .i64 ((N - 1 - k : Nat) : Int) ∧ k < N ∧ Own wr w2.heap.size rv (R.take (k + 1)) ∧ Below w2.heap.size w2 wr) (fun _ jv _ => (intOf jv).toNat)
    case atStart =>
      refine ⟨0, rfl, by omega, ?_, Below.made (Nat.le_refl _) (Below.refl _ _) _⟩
      rw [HM.out.2.2.2.2.2.2.2]
      exact own_of (l := [x0]) (Nat.le_refl _) (by simpa [vs] using heap_alloc_new w2 (.cells #[.int .u64 x0] 22)) (by simp) (fun y hy => by simp at hy; subst hy; exact hx0)
    case round =>
      obtain ⟨k, rfl, hk, hown, hb⟩ := hrel
      obtain ⟨j, hj⟩ : ∃ j, j = N - 1 - k := ⟨_, rfl⟩
      rw [← hj]
      cases j with
      | succ q =>
        have hqE : q + 1 < E.length := by have := HM.out.1; omega
        have hcq := (HO.out.1.hold hb).cell hqE
        have huq := HO.out.1.us _ (List.getElem_mem hqE)
        have hRk : R.take (k + 1 + 1) = R.take (k + 1) ++ [E[q + 1]] := by
          have h1 : k + 1 < R.length := by have := HM.out.2.2.1; omega
          rw [take_snoc h1, HM.out.2.2.2.1 _ h1, HM.out.2.1 _ hqE]
          congr 4
          rw [Nat.mod_eq_of_lt (by omega)]; omega
        obtain ⟨y, hy⟩ : ∃ y, y = E[q + 1] := ⟨_, rfl⟩
        rw [← hy] at hcq huq hRk
        have hkq : N - 1 - (k + 1) = q := by omega
        have hk2 : k + 1 < N := by omega
        have hrl : (R.take (k + 1)).length ≤ 1000000 := by rw [List.length_take]; omega
        have HW := Lib.hid (And.intro hown (And.intro hb (And.intro hRk (And.intro hkq (And.intro hk2 hrl)))))
        have i0 : (0 : Int) ≤ (q : Int) := by omega
        have i1 : (q : Int) + 1 < (N : Int) := by omega
        rw [show ((q + 1 : Nat) : Int) = (q : Int) + 1 by omega]
        clear hown hb hRk hkq hk2 hj hk hy hqE hrl hc0
        go_wp2_with (at_builtin; refine append_one rfl (.tmp 47) (.tmp 52) rfl w2.heap.size _ _ rfl HW.out.1 _ inferInstance rfl HW.out.2.2.2.2.2 HW.out.2.1.size ?_; intro v' w' hown' hb')
        exact ⟨⟨k + 1, by rw [HW.out.2.2.2.1], HW.out.2.2.2.2.1, by rw [HW.out.2.2.1]; exact hown', HW.out.2.1.trans hb'⟩, by first | (simp [intOf]; done) | (simp [intOf]; omega)⟩
      | zero =>
        have hkN : k + 1 = N := by omega
        rw [hkN, List.take_of_length_le (by have := HM.out.2.2.1; omega)] at hown
        have HW := Lib.hid (And.intro hown hb)
        clear hown hb hkN hj hk hc0
        go_wp2_with (first
          | (go_at_call 28; refine (rInv_u p _ _).mono ?_; rintro _ w3 ⟨rfl, hb3⟩; replace HW := Lib.hid (And.intro (HW.out.1.hold hb3.b) (Below.next (Nat.le_refl _) HW.out.2 hb3.b)); clear hb3))
        rename World => wz
        obtain ⟨g2, c2, rfl⟩ : ∃ g2 c2, u13 = .slice (some ⟨g2, 0, none⟩) N c2 := by
          have hRl := HM.out.2.2.1
          rcases HW.out.1.cases with ⟨_, e⟩ | ⟨g2, c2, e, _⟩
          · rw [e] at hRl; simp at hRl; omega
          · rw [hRl] at e; exact ⟨g2, c2, e⟩
        go_loopw [15, 17] (fun sv iv wr => ∃ k : Nat, iv = .int .i64 k ∧ k ≤ N ∧ sv = .int .u64 (ival p (tfac p s N k)) ∧ Own wr w2.heap.size (.slice (some ⟨g2, 0, none⟩) N c2) (updK (fun i => ml p (R.getD i 0) (ival p (tfac p s N i))) R 0 k) ∧ Below w2.heap.size w2 wr) (fun _ iv _ => N - (intOf iv).toNat)
        case atStart => exact ⟨0, rfl, Nat.zero_le _, by rw [HM.out.2.2.2.2.2.1], by rw [updK_zero]; exact HW.out.1, HW.out.2⟩
        case round =>
          obtain ⟨k, rfl, hk, rfl, hown, hb⟩ := hrel
          have i0 : (0 : Int) ≤ (k : Int) := by omega
          by_cases hlt : k < N
          · have hkR : k < R.length := by have := HM.out.2.2.1; omega
            have hc := hown.cell (i := k) (by rw [updK_len]; exact hkR)
            rw [updK_at0 hkR] at hc
            have hz := hown.thawed k
            have huR := HW.out.1.us _ (List.getElem_mem hkR)
            have hset := updK_set0 (f := fun i => ml p (R.getD i 0) (ival p (tfac p s N i))) (L := R) (k := k)
            rw [getD_lt _ hkR] at hset
            have hts := HM.out.2.2.2.2.2.2.1 k
            obtain ⟨x, hx⟩ : ∃ x, x = R[k] := ⟨_, rfl⟩
            rw [← hx] at hc huR hset
            obtain ⟨y, hy⟩ : ∃ y, y = ival p (tfac p s N k) := ⟨_, rfl⟩
            have hyU : U y := by rw [hy]; infer_instance
            rw [← hy] at hset hts ⊢
            have i1 : (k : Int) < (N : Int) := by omega
            have HV := Lib.hid (And.intro hown (And.intro hb (And.intro hset hts)))
            clear hown hb hset hts hx hy hkR
            go_upto_region 17 with (go_at_call 27; refine (rMul_u p _ _ _).mono ?_; rintro _ w4 ⟨rfl, hb4⟩; have hc4 := hb4.hold hc; have hz4 := (hb4.f _).trans hz; have HB4 := Lib.hid hb4.b; clear hb4)
            have hs := (HV.out.1.hold HB4.out).set k (ml p x y)
            have hbs := Below.wrote (Below.next (Nat.le_refl _) HV.out.2.1 HB4.out) (Nat.le_refl _) (Nat.le_trans HV.out.2.1.size HB4.out.size) (HV.out.1.hold HB4.out) hs.2
            rw [HV.out.2.2.1] at hs
            have HS := Lib.hid (And.intro hs.1 hbs)
            clear hs hbs hc4 hz4 hc hz
            go_wp2_with (go_at_call 27; refine (rMul_u p _ _ _).mono ?_; rintro _ w5 ⟨rfl, hb5⟩)
            exact ⟨⟨k + 1, by go_num, by omega, by rw [HV.out.2.2.2], HS.out.1.hold hb5.b, Below.next (Nat.le_refl _) HS.out.2 hb5.b⟩, by simp [intOf]; omega⟩
          · obtain rfl : k = N := by omega
            have hRl := HM.out.2.2.1
            have hf := HM.out.2.2.2.2.1
            rw [hRl] at hf
            rw [hf] at hown
            have HV := Lib.hid (And.intro hown hb)
            clear hown hb hRl hf
            go_wp2
            refine bodyPost_ret (results_tmp2 rfl _ _ _) rfl ?_
            exact ⟨_, rfl, HV.out.1.low HO.out.2.size, Below.next (Nat.le_refl _) HO.out.2 HV.out.2⟩
  · have h2 : resI p s a = [] := by rw [resI, if_neg he]
    rw [h2]
    obtain ⟨er, her⟩ : ∃ er, er = errD p s a.length := ⟨_, rfl⟩
    rw [← her] at he ⊢
    have hne : (er != 0) = true := by simpa using he
    have HK := Lib.hid her
    have hn1 : (a.length : Int) ≤ 9223372036854775807 := by omega
    have hn0 : -9223372036854775808 ≤ (a.length : Int) := by omega
    clear h2 her
    go_enter Try.func14, Try.ntmps14
    go_wp2_with (go_at_call 17; refine (uDomain_u p s a.length hn0 hn1 _).mono ?_; rintro _ w1 ⟨v1, rfl, hown, hb1⟩; rw [← HK.out])
    refine bodyPost_ret (results_tmp2 rfl _ _ _) rfl ?_
    exact ⟨_, rfl, Own.nil _ _, hb1⟩
end Go.Proofs.Ytnmbggdfcgbniaa
