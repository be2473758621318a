/- The walk of the reference's Determinant (05). -/
import Derived.Test.YtdcdaclkeocfpaaKF
import Derived.Test.YtdcdaclkeocfpaaMatB
namespace Go.Proofs.Ytdcdaclkeocfpaa
open Go.RowKit Go.BigFrame
open Classical

theorem rng_ival {p y : Int} (hk : known p = true) (h : 0 ≤ y ∧ y < p) : y = ival p (ph p y) :=
  ival_of (fun _ => ⟨h, rfl⟩) fun h2 => by rw [hk] at h2; cases h2
theorem ad_ival {p : Int} (hk : known p = true) (a b : Int) : ad p a b = ival p (ph p a + ph p b) := by rw [rng_ival hk (ad_bd hk a b), ph_ad hk]
theorem sb_ival {p : Int} (hk : known p = true) (a b : Int) : sb p a b = ival p (ph p a - ph p b) := by rw [rng_ival hk (sb_rng hk a b), ph_sb hk]
theorem ml_ival {p : Int} (hk : known p = true) (a b : Int) : ml p a b = ival p (ph p a * ph p b) := by rw [rng_ival hk (ml_rng hk a b), ph_ml hk]
theorem ival_z {p : Int} (hk : known p = true) : ival p 0 = 0 := by
  have hp := known_lo hk
  have h := rng_ival hk (show 0 ≤ (0 : Int) ∧ (0 : Int) < p by omega)
  rw [ph_zero hk] at h; exact h.symm
theorem ival_one {p : Int} (hk : known p = true) : ival p 1 = 1 := by
  have hp := known_lo hk
  have h := rng_ival hk (show 0 ≤ (1 : Int) ∧ (1 : Int) < p by omega)
  rw [ph_one hk] at h; exact h.symm

/-- Without row i and the first column. -/
def minL (M : List (List Int)) (i : Nat) : List (List Int) := (List.range (M.length - 1)).map fun r => (M.getD (Po.skip i r) []).drop 1
theorem minL_len (M : List (List Int)) (i : Nat) : (minL M i).length = M.length - 1 := by simp [minL]
theorem minL_at {M : List (List Int)} {i r : Nat} (h : r < (minL M i).length) : (minL M i)[r] = (M.getD (Po.skip i r) []).drop 1 := by simp [minL]
theorem mf_minL {p : Int} {M : List (List Int)} {i n : Nat} (hM : M.length = n + 1) : ∀ r, r < n → ∀ c, c < n → mf p (minL M i) r c = Po.minor (mf p M) i r c := fun r hr c _ => by
  rw [mf_row (by rw [minL_len]; omega), minL_at]
  show ph p _ = ph p ((M.getD (Po.skip i r) []).getD (c + 1) 0)
  congr 1
  simp [List.getD]
/-- How many of the first k rows are taken. -/
def cnt (i k : Nat) : Nat := if k ≤ i then k else k - 1
theorem minL_take {M : List (List Int)} {i k : Nat} (hk : k < M.length) (hne : k ≠ i) (hi : i < M.length) : (minL M i).take (cnt i (k + 1)) = (minL M i).take (cnt i k) ++ [M[k].drop 1] := by
  have e1 : cnt i (k + 1) = cnt i k + 1 := by unfold cnt; split <;> split <;> omega
  have h1 : cnt i k < (minL M i).length := by rw [minL_len]; unfold cnt; split <;> omega
  rw [e1, List.take_succ_eq_append_getElem h1, minL_at]
  have e2 : Po.skip i (cnt i k) = k := by unfold Po.skip cnt; split <;> split <;> omega
  rw [e2, getD_row hk]
theorem cnt_same (i : Nat) : cnt i (i + 1) = cnt i i := by unfold cnt; rw [if_neg (by omega), if_pos (by omega)]; omega
theorem Lst.drop1 {w : World} {b o c : Nat} {l : List Int} (h : Lst w (.slice (some ⟨b, o, none⟩) l.length c) l) (_h0 : 0 < l.length) : Lst w (.slice (some ⟨b, o + 1, none⟩) (l.length - 1) (c - 1)) (l.drop 1) := by
  have hl : (l.drop 1).length = l.length - 1 := by simp
  refine ⟨.inr ⟨_, _, by rw [hl]⟩, fun i hi => ?_, fun x hx => h.us x (List.mem_of_mem_drop hx), fun a n c' e => ?_⟩
  · rw [hl] at hi
    obtain ⟨b1, o1, c1, e1, hc⟩ := h.cells (i + 1) (by omega)
    obtain ⟨⟨rfl, rfl⟩, rfl⟩ : (b = b1 ∧ o = o1) ∧ c = c1 := by simp at e1; exact e1
    refine ⟨b, o + 1, c - 1, by rw [hl], ?_⟩
    rw [show o + 1 + i = o + (i + 1) by omega, hc]
    simp
  · have hr := h.room _ _ _ rfl
    cases e; omega

noncomputable def detI (p : Int) (M : List (List Int)) : Int := if OkM p M ∧ M.length = cols M then ival p (Po.det M.length (mf p M)) else 0
instance {p : Int} {M : List (List Int)} : U (detI p M) := by
  unfold detI; split <;> infer_instance
theorem minL_ok {p : Int} {M : List (List Int)} (h : OkM p M) (hs : M.length = cols M) {n : Nat} (hn : M.length = n + 1) (i : Nat) (hi : i < M.length) : OkM p (minL M i) ∧ (minL M i).length = cols (minL M i) := by
  have hrow : ∀ r (hr : r < (minL M i).length), (minL M i)[r].length = n := fun r hr => by
    rw [minL_len] at hr
    have h1 : Po.skip i r < M.length := by unfold Po.skip; split <;> omega
    rw [minL_at, getD_row h1]
    have := (h.2.1 _ h1).1
    simp; omega
  have hcols : cols (minL M i) = n := by
    by_cases h0 : 0 < (minL M i).length
    · rw [cols_at h0, hrow 0 h0]
    · have h1 : n = 0 := by rw [minL_len] at h0; omega
      have : minL M i = [] := List.length_eq_zero_iff.1 (by omega)
      rw [this]; simp [cols, h1]
  refine ⟨⟨h.1, fun r hr => ⟨by rw [hrow r hr, hcols], ?_⟩, ?_⟩, ?_⟩
  · rw [hrow r hr]; have := h.2.2; omega
  · rw [minL_len]; have := h.2.2; omega
  · rw [minL_len, hcols]; omega
/-- One term of the expansion. -/
theorem det_term {p : Int} {M : List (List Int)} (h : OkM p M) (hs : M.length = cols M) {n : Nat} (hn : M.length = n + 1) {i : Nat} (hi : i < M.length) : ph p (detI p (minL M i)) = Po.det n (Po.minor (mf p M) i) := by
  have h1 := minL_ok h hs hn i hi
  unfold detI
  rw [if_pos h1, ph_ival h.1, minL_len, show M.length - 1 = n by omega]
  exact Po.det_congr n (mf_minL hn)

set_option maxHeartbeats 2000000 in
theorem kDet_no (p : Int) [_hpU : U p] (v : Value) (M : List (List Int)) (w : World) (hok : ¬ (OkM p M ∧ M.length = cols M)) (hM : MatR w v M) (hn : M.length ≤ 100000) (hr : ∀ i (h : i < M.length), M[i].length ≤ 100000) :
    Calls Try.prog 31 #[.int .u64 p, v] w fun e w' => e = .returned (.int .u64 (detI p M)) ∧ Below w.heap.size w w' := by
  obtain ⟨a0, c0, rfl⟩ := hM.shape
  have hv : detI p M = 0 := by unfold detI; rw [if_neg hok]
  rw [hv]
  by_cases h1 : OkM p M
  · have hd : (known p && decide (Vld M)) = true := by rw [okM_dec, decide_eq_true h1]
    have hne : ((M.length : Int) != (cols M : Int)) = true := by
      have h2 : M.length ≠ cols M := fun h => hok ⟨h1, h⟩
      exact bne_iff_ne.2 (show (M.length : Int) ≠ (cols M : Int) by omega)
    have h64 := h1.2.2
    have hc64 := h1.2.cols
    have HM := Lib.hid (And.intro hM (And.intro hr hd))
    clear hM hr hd hok h1 hv
    go_enter Try.func31, Try.ntmps31
    go_wp2_with (first
      | (go_at_call 64; refine (kok_u p _ M _ HM.out.1 hn HM.out.2.1).mono ?_; rintro e w1 ⟨rfl, hb1⟩; rw [HM.out.2.2])
      | (go_at_call 41; refine (kColumns_u _ M _ (HM.out.1.hold hb1.b) hn).mono ?_; rintro e w2 ⟨rfl, rfl⟩))
    go_ret
    exact ⟨rfl, hb1.b⟩
  · have hd : (known p && decide (Vld M)) = false := by rw [okM_dec, decide_eq_false h1]
    have HM := Lib.hid (And.intro hM (And.intro hr hd))
    clear hM hr hd hok h1 hv
    go_enter Try.func31, Try.ntmps31
    go_wp2_with (go_at_call 64; refine (kok_u p _ M _ HM.out.1 hn HM.out.2.1).mono ?_; rintro e w1 ⟨rfl, hb1⟩; rw [HM.out.2.2])
    go_ret
    exact ⟨rfl, hb1.b⟩

set_option maxRecDepth 100000 in
set_option maxHeartbeats 16000000 in
theorem kDet_u (p : Int) [hpU : U p] : ∀ (m : Nat) (v : Value) (M : List (List Int)) (w : World), M.length = m → MatR w v M → M.length ≤ 100000 → (∀ i (h : i < M.length), M[i].length ≤ 100000) →
    Calls Try.prog 31 #[.int .u64 p, v] w fun e w' => e = .returned (.int .u64 (detI p M)) ∧ Below w.heap.size w w' := by
  intro m
  induction m with
  | zero =>
    intro v M w hm hM hn hr
    by_cases hok : OkM p M ∧ M.length = cols M
    · obtain rfl : M = [] := List.length_eq_zero_iff.1 hm
      obtain ⟨a0, c0, rfl⟩ := hM.shape
      have hd : (known p && decide (Vld [])) = true := by rw [okM_dec, decide_eq_true hok.1]
      have hv : detI p [] = 1 := by
        unfold detI
        rw [if_pos hok]
        exact ival_one hok.1.1
      have hcl : cols [] = 0 := rfl
      have HM := Lib.hid (And.intro hM (And.intro hr (And.intro hd (And.intro hv hcl))))
      clear hM hr hd hv hcl hok
      go_enter Try.func31, Try.ntmps31
      go_wp2_with (first
        | (go_at_call 64; refine (kok_u p _ [] _ HM.out.1 hn HM.out.2.1).mono ?_; rintro e w1 ⟨rfl, hb1⟩; rw [HM.out.2.2.1])
        | (go_at_call 41; refine (kColumns_u _ [] _ (HM.out.1.hold hb1.b) hn).mono ?_; rintro e w2 ⟨rfl, rfl⟩; rw [HM.out.2.2.2.2]))
      go_ret
      exact ⟨by rw [HM.out.2.2.2.1]; rfl, hb1.b⟩
    · exact kDet_no p _ M w hok hM hn hr
  | succ n ih =>
    intro v M w hmn hM hn hr
    obtain ⟨a0, c0, rfl⟩ := hM.shape
    by_cases hok : OkM p M ∧ M.length = cols M
    · have hd : (known p && decide (Vld M)) = true := by rw [okM_dec, decide_eq_true hok.1]
      have h64 := hok.1.2.2
      have hc64 := hok.1.2.cols
      have i1 : (M.length : Int) ≤ 64 := by omega
      have i2 : (1 : Int) ≤ (M.length : Int) := by omega
      have i3 : ((M.length : Int) == 0) = false := beq_eq_false_iff_ne.2 (show (M.length : Int) ≠ 0 by omega)
      have i4 : ((M.length : Int) != (cols M : Int)) = false := by rw [hok.2]; simp
      have i5 : ¬ (M.length : Int) = 0 := by omega
      have HM := Lib.hid (And.intro hM (And.intro hr (And.intro hok (And.intro hd hmn))))
      have IH := Lib.hid ih
      clear hM hr hok hd hmn ih
      go_enter Try.func31, Try.ntmps31
      go_upto_region 3 with (first
        | (go_at_call 64; refine (kok_u p _ M _ HM.out.1 hn HM.out.2.1).mono ?_; rintro e w1 ⟨rfl, hb1⟩; rw [HM.out.2.2.2.1])
        | (go_at_call 41; refine (kColumns_u _ M _ (HM.out.1.hold hb1.b) hn).mono ?_; rintro e w2 ⟨rfl, rfl⟩))
      have HB := Lib.hid hb1.b
      clear hb1
      obtain ⟨T, hT⟩ : ∃ T : Nat → Fin (Q p), T = fun i => Po.sg i * (mf p M i 0 * Po.det n (Po.minor (mf p M) i)) := ⟨_, rfl⟩
      have HT := Lib.hid hT
      clear hT
      go_wp2
      go_loopw [5, 6] (fun sv iv wr => ∃ i : Nat, iv = .int .i64 i ∧ i ≤ M.length ∧ sv = .int .u64 (ival p (Po.sm T i)) ∧ Below w.heap.size w wr) (fun _ iv _ => M.length - (intOf iv).toNat)
      case atStart => exact ⟨0, rfl, Nat.zero_le _, by rw [show Po.sm T 0 = 0 from rfl, ival_z HM.out.2.2.1.1.1], HB.out⟩
      case round =>
        obtain ⟨i, rfl, hi, rfl, hb⟩ := hrel
        have i0 : (0 : Int) ≤ (i : Int) := by omega
        by_cases hlt : i < M.length
        · have i6 : (i : Int) < (M.length : Int) := by omega
          have HR := Lib.hid (HM.out.1.hold hb)
          have HB2 := Lib.hid hb
          clear hb
          rename World => wi
          go_wp2_with fail
          go_loopw [7, 8] (fun ov kv wx => ∃ (k : Nat) (rs : Nat → Value), kv = .int .i64 k ∧ k ≤ M.length ∧ OutR wx wi.heap.size ov rs ((minL M i).take (cnt i k)) ∧ Below wi.heap.size wi wx) (fun _ kv _ => M.length - (intOf kv).toNat)
          case atStart => exact ⟨0, fun _ => undef, rfl, Nat.zero_le _, by rw [show cnt i 0 = 0 by unfold cnt; rw [if_pos (Nat.zero_le _)]]; exact empty_out _ _ _ (Nat.le_refl _), Below.made (Nat.le_refl _) (Below.refl _ _) _⟩
          case round =>
            obtain ⟨k, rs, rfl, hk, hout, hbk⟩ := hrel
            have k0 : (0 : Int) ≤ (k : Int) := by omega
            by_cases hkl : k < M.length
            · have k1 : (k : Int) < (M.length : Int) := by omega
              by_cases hki : k = i
              · have k2 : ((k : Int) != (i : Int)) = false := by simp; omega
                have hcn : cnt i (k + 1) = cnt i k := by rw [hki]; exact cnt_same i
                have HO := Lib.hid (And.intro hout (And.intro hbk hcn))
                clear hout hbk hcn hki
                go_wp2
                exact ⟨⟨k + 1, rs, by go_num, by omega, by rw [HO.out.2.2]; exact HO.out.1, HO.out.2.1⟩, by simp [intOf]; omega⟩
              · have k2 : ((k : Int) != (i : Int)) = true := by simp; omega
                have hrk : M[k].length = n + 1 := by
                  have h1 := (HM.out.2.2.1.1.2.1 k hkl).1
                  have h2 := HM.out.2.2.1.2
                  have h3 := HM.out.2.2.2.2
                  omega
                obtain ⟨b, o, c, rv, e, hc, hl⟩ := HR.out.rows k hkl
                obtain ⟨rfl, rfl⟩ : a0 = some ⟨b, o, none⟩ ∧ c0 = c := by simp at e; exact e
                obtain ⟨b2, o2, c2, e2, -⟩ := hl.cells 0 (by omega)
                have hlow : b2 < wi.heap.size := hl.lt (by omega) (by rw [e2]; rfl)
                have hroom := hl.room _ _ _ e2
                rw [e2] at hl hc
                have hd1 := hl.drop1 (by omega)
                have htk := minL_take hkl hki hlt
                have hck := Below.hold hbk hc
                rw [hrk] at hck hd1 hroom
                obtain ⟨X, hX⟩ : ∃ X, X = M[k].drop 1 := ⟨_, rfl⟩
                have hXl : X.length = n := by rw [hX]; simp; omega
                rw [← hX] at hd1 htk
                have k3 : (1 : Int) ≤ ((n + 1 : Nat) : Int) := by omega
                have k4 : ((n + 1 : Nat) : Int) ≤ (c2 : Int) := by omega
                have hcl : (((minL M i).take (cnt i k))).length ≤ 1000000 := by rw [List.length_take, minL_len]; omega
                have HO := Lib.hid (And.intro hout (And.intro hbk (And.intro htk (And.intro hd1 (And.intro hlow (And.intro hcl hXl))))))
                clear hout hbk htk hd1 hX e e2 hki hl hrk hc hXl hcl hlow
                by_cases hc1 : c2 = 1
                · subst hc1
                  obtain rfl : n = 0 := by omega
                  have hX0 : Lst wi (.slice (some ⟨b2, o2, none⟩) 0 0) X := by
                    obtain rfl : X = [] := List.length_eq_zero_iff.1 HO.out.2.2.2.2.2.2
                    exact ⟨.inr ⟨_, _, rfl⟩, fun i hi => by simp at hi, us_nil, fun a n c e => by cases e; exact Nat.le_refl _⟩
                  have HX0 := Lib.hid hX0
                  clear hX0
                  go_wp2_with (at_builtin; refine append_ref rfl (.tmp 40) (.tmp 46) rfl wi.heap.size u7 rs _ rfl HO.out.1 _ X (HX0.out.hold HO.out.2.1) (fun _ g e => by cases e; exact HO.out.2.2.2.2.1) rfl HO.out.2.2.2.2.2.1 HO.out.2.1.size ?_; intro g2 c3 w2 hown2 _ hg2)
                  rw [← HO.out.2.2.1] at hown2
                  exact ⟨⟨k + 1, _, by go_num, by omega, by first | exact hown2 | (simpa using hown2), HO.out.2.1.grown hg2 HO.out.2.1.size (fun b e => (HO.out.1.outer.lt b e).1)⟩, by simp [intOf]; omega⟩
                · have k5 : ¬ c2 - 1 = 0 := by omega
                  go_wp2_with (at_builtin; refine append_ref rfl (.tmp 40) (.tmp 46) rfl wi.heap.size u7 rs _ rfl HO.out.1 _ X (HO.out.2.2.2.1.hold HO.out.2.1) (fun _ g e => by cases e; exact HO.out.2.2.2.2.1) rfl HO.out.2.2.2.2.2.1 HO.out.2.1.size ?_; intro g2 c3 w2 hown2 _ hg2)
                  rw [← HO.out.2.2.1] at hown2
                  exact ⟨⟨k + 1, _, by go_num, by omega, by first | exact hown2 | (simpa using hown2), HO.out.2.1.grown hg2 HO.out.2.1.size (fun b e => (HO.out.1.outer.lt b e).1)⟩, by simp [intOf]; omega⟩
            · obtain rfl : M.length = k := by omega
              rw [List.take_of_length_le (by rw [minL_len]; unfold cnt; rw [if_neg (by omega)]; exact Nat.le_refl _)] at hout
              have hri : M[i].length = n + 1 := by
                have h1 := (HM.out.2.2.1.1.2.1 i hlt).1
                have h2 := HM.out.2.2.1.2
                have h3 := HM.out.2.2.2.2
                omega
              obtain ⟨b, o, c, rv, e, hc, hl⟩ := (HR.out.hold hbk).rows i hlt
              obtain ⟨rfl, rfl⟩ : a0 = some ⟨b, o, none⟩ ∧ c0 = c := by simp at e; exact e
              obtain ⟨b2, o2, c2, e2, hce⟩ := hl.cells 0 (by omega)
              subst e2
              rw [Nat.add_zero] at hce
              have hux := hl.us M[i][0] (List.getElem_mem (by omega))
              have hmx : mf p M i 0 = ph p M[i][0] := by rw [mf_row hlt, getD_lt _ (by omega)]
              obtain ⟨x, hx⟩ : ∃ x, x = M[i][0] := ⟨_, rfl⟩
              rw [← hx] at hce hux hmx
              obtain ⟨rl, hrl⟩ : ∃ rl, rl = M[i].length := ⟨_, rfl⟩
              rw [← hrl] at hc hri
              have i7 : (0 : Int) < (rl : Int) := by omega
              have hml : (minL M i).length = n := by rw [minL_len]; have := HM.out.2.2.2.2; omega
              have HD := Lib.hid (fun q : BwAt wr => hout.matR.hold q.bw)
              have hrows : ∀ r (h : r < (minL M i).length), (minL M i)[r].length ≤ 100000 := fun r h => by
                have h1 := minL_ok HM.out.2.2.1.1 HM.out.2.2.1.2 HM.out.2.2.2.2 i hlt
                have := (h1.1.2.1 r h).2
                omega
              have hterm := det_term HM.out.2.2.1.1 HM.out.2.2.1.2 HM.out.2.2.2.2 hlt
              have hTi : T i = Po.sg i * (ph p x * ph p (detI p (minL M i))) := by rw [HT.out, hterm, ← hmx]
              obtain ⟨d, hdd⟩ : ∃ d, d = detI p (minL M i) := ⟨_, rfl⟩
              have hdU : U d := by rw [hdd]; infer_instance
              rw [← hdd] at hTi
              have HI := Lib.hid (show ∀ q : BwAt wr, Calls Try.prog 31 #[.int .u64 p, u7] q.out fun e w' => e = .returned (.int .u64 d) ∧ Below q.out.heap.size q.out w' from fun q => by rw [hdd]; exact IH.out _ (minL M i) _ hml (HD.out q) (by rw [minL_len]; omega) hrows)
              have HB3 := Lib.hid (Below.next (Nat.le_refl _) HB2.out hbk)
              have HE := Lib.hid (And.intro hdd (And.intro hrows (And.intro hml hTi)))
              have m1 := fun q : BwAt wr => Below.hold q.bw hc
              have m2 := fun q : BwAt wr => Below.hold q.bw hce
              clear hout hbk e hc hl hce hmx hx hrl hterm hTi hdd hrows hml
              go_upto_region 15 with fail
              refine from_now ?_
              intro q
              refine wp_region_bw (by kernel_rfl) (by kernel_rfl) ?_
              repeat (go_big_quiet_step ((first | (go_at_call 31; exact bwAt_of (HI.out _)) | (go_at_call 43; exact bwAt_nw (rMul_u _ _ _ _)))))
              refine wpQuiet_nil ?_
              clear q
              rintro _ ⟨q, rfl⟩
              have hk := HM.out.2.2.1.1.1
              have HBq := Lib.hid (Below.next (Nat.le_refl _) HB3.out q.bw)
              obtain ⟨t, htm⟩ : ∃ t, t = ml p x d := ⟨_, rfl⟩
              have htU : U t := by rw [htm]; infer_instance
              have hpt : ph p t = ph p x * ph p d := by rw [htm, ph_ml hk]
              rw [← htm]
              obtain ⟨sI, hsI⟩ : ∃ sI, sI = ival p (Po.sm T i) := ⟨_, rfl⟩
              have hsU : U sI := by rw [hsI]; infer_instance
              have hps : ph p sI = Po.sm T i := by rw [hsI, ph_ival hk]
              rw [← hsI]
              have hnext : Po.sm T (i + 1) = Po.sm T i + T i := rfl
              have hTi := HE.out.2.2.2
              by_cases hpar : i % 2 = 1
              · have p1 : (i : Int).tmod 2 = 1 := by rw [Int.tmod_eq_emod_of_nonneg i0]; omega
                have p2 : (i : Int) % 2 = 1 := by omega
                have hval : ad p sI (sb p 0 t) = ival p (Po.sm T (i + 1)) := by
                  rw [ad_ival hk, ph_sb hk, ph_zero hk, hps, hpt, hnext, hTi]
                  congr 1
                  unfold Po.sg
                  rw [if_neg (by omega)]; grind
                have HV := Lib.hid hval
                clear hval hps hpt hsI htm hnext hTi m1 m2
                go_wp2_with (first
                  | (go_at_call 69; refine (rNeg_u p t _).mono ?_; rintro _ w3 ⟨rfl, hb3⟩)
                  | (go_at_call 72; refine (rAdd_u p sI (sb p 0 t) _).mono ?_; rintro _ w4 ⟨rfl, hb4⟩; rw [HV.out]))
                exact ⟨⟨i + 1, by go_num, by omega, rfl, Below.next (Nat.le_refl _) (Below.next (Nat.le_refl _) HBq.out hb3.b) hb4.b⟩, by simp [intOf]; omega⟩
              · have p1 : (i : Int).tmod 2 = 0 := by rw [Int.tmod_eq_emod_of_nonneg i0]; omega
                have p2 : (i : Int) % 2 = 0 := by omega
                have hval : ad p sI t = ival p (Po.sm T (i + 1)) := by
                  rw [ad_ival hk, hps, hpt, hnext, hTi]
                  congr 1
                  unfold Po.sg
                  rw [if_pos (by omega)]; grind
                have HV := Lib.hid hval
                clear hval hps hpt hsI htm hnext hTi m1 m2
                go_wp2_with (go_at_call 72; refine (rAdd_u p sI t _).mono ?_; rintro _ w4 ⟨rfl, hb4⟩; rw [HV.out])
                exact ⟨⟨i + 1, by go_num, by omega, rfl, Below.next (Nat.le_refl _) HBq.out hb4.b⟩, by simp [intOf]; omega⟩
        · obtain rfl : M.length = i := by omega
          have hfin : ival p (Po.sm T M.length) = detI p M := by
            unfold detI
            rw [if_pos HM.out.2.2.1]
            have h3 := HM.out.2.2.2.2
            rw [h3, HT.out]; rfl
          have HF := Lib.hid (And.intro hfin hb)
          clear hfin hb
          go_wp2
          go_ret
          exact ⟨by rw [← HF.out.1]; rfl, HF.out.2⟩
    · exact kDet_no p _ M w hok hM hn hr
end Go.Proofs.Ytdcdaclkeocfpaa
