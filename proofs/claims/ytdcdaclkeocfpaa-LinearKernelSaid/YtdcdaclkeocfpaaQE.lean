/- The walks of package linear's Reduce, Rank, Determinant. -/
import Derived.Test.YtdcdaclkeocfpaaQD
namespace Go.Proofs.Ytdcdaclkeocfpaa
open Go.RowKit Go.BigFrame
open Classical

theorem cols_redL (p : Int) (M : List (List Int)) : cols (redL p M) = cols M := by
  by_cases h : 0 < M.length
  · rw [cols_at h, cols_at (by rw [redL_len]; exact h), redL_at]; simp
  · have : M = [] := List.length_eq_zero_iff.1 (by omega)
    subst this; rfl
theorem Elm.of_red {p : Int} (hk : known p = true) {M R : List (List Int)} {n : Nat} {c : List Nat} (h : Elm p (redL p M) n R c) : Elm p M n R c := by
  obtain ⟨h1, h2, h3⟩ := h
  rw [redL_len] at h1 h2 h3
  rw [mf_redL hk] at h3
  exact ⟨h1, h2, h3⟩
theorem OkM.mt {p : Int} {M : List (List Int)} (h : OkM p M) : Mt p M.length (cols M) (redL p M) := Mt.redL h.1 fun i hi => (h.2.1 i hi).1
/-- What the determinant of a reduced form is. -/
theorem det_of {p : Int} {M R : List (List Int)} {c : List Nat} {m : Nat} {fac : Int} (hk : known p = true) (hp : Po.Part m m (mf p R) c) (hf : 0 ≤ fac ∧ fac < p) (hd : Po.det m (mf p M) = ph p fac * Po.det m (mf p R)) :
    ival p (Po.det m (mf p M)) = if c.length < m then 0 else fac := by
  have hl := hp.len
  by_cases h : c.length < m
  · rw [if_pos h, hd, Po.det_zero_row (r := m - 1) (by omega) _ (fun j hj => hp.rest (m - 1) (by omega) (by omega) j hj)]
    rw [show ph p fac * 0 = 0 by grind, ival_z hk]
  · rw [if_neg h, hd, Po.det_congr m (Po.full_one hp (by omega)), Po.det_one]
    rw [show ph p fac * 1 = ph p fac by grind]
    exact (rng_ival hk hf).symm

set_option maxHeartbeats 2000000 in
theorem mReduce_o (p : Int) [hpU : U p] (v : Value) (M : List (List Int)) (w : World) (hM : MatR w v M) (hn : M.length ≤ 100) (hr : ∀ i (h : i < M.length), M[i].length ≤ 100) :
    Calls Try.prog 18 #[.agg #[.int .u64 p], v] w fun e w' => ∃ v1 v2 rs R c, e = .returned (.tuple #[v1, v2]) ∧ OwnM w' w.heap.size v1 rs R ∧ OwI w' w.heap.size v2 c ∧ RedOf p M R c ∧ Below w.heap.size w w' := by
  have HM := Lib.hid (And.intro hM hr)
  clear hM hr
  have hb0 : Below w.heap.size w (w.alloc (.cells #[.int .u64 p] 27)) := Below.made (Nat.le_refl _) (Below.refl _ _) _
  have hf0 : (w.alloc (.cells #[.int .u64 p] 27)).cell? ⟨w.heap.size, 0, none⟩ = some (.int .u64 p) := by go_simp
  have HB := Lib.hid (And.intro hb0 hf0)
  clear hb0 hf0
  by_cases hok : OkM p M
  · have hd : decide (OkM p M) = true := decide_eq_true hok
    have HK := Lib.hid (And.intro hd hok)
    have h64 := hok.2.2
    have hc64 := hok.2.cols
    clear hd hok
    go_enter Try.func18, Try.ntmps18
    go_wp2_with (first
      | (go_at_call 61; refine (musable_u p _ M _ (HM.out.1.hold HB.out.1) (by omega) (fun i h => Nat.le_trans (HM.out.2 i h) (by decide))).mono ?_; rintro _ w1 ⟨rfl, hb1⟩; rw [HK.out.1]
         have hb1' := Below.next (Nat.le_refl _) HB.out.1 hb1.b
         have hf1 := hb1.hold HB.out.2)
      | (go_at_call 62; refine (mcopyOf_w p HK.out.2.1 _ M _ (HM.out.1.hold hb1') hn HM.out.2).mono ?_; rintro _ w2 ⟨v2, rs2, rfl, hm2, -, hsz2, hb2⟩
         have hb2' := Below.next (Nat.le_refl _) hb1' hb2
         have hf2 := Below.hold hb2 hf1)
      | (go_at_call 63; refine (meliminate_w p HK.out.2.1 (w1.heap.size + 1) _ rs2 (redL p M) M.length (cols M) _ hm2 HK.out.2.mt (cols_redL p M) (by omega) (by omega) hsz2).mono ?_; rintro _ w3 ⟨vp, rs3, R, c, fac, rfl, hm3, hc3, helm, -, -, hb3⟩))
    refine bodyPost_ret (results_tmp2 rfl _ _ _) rfl ?_
    have hs1 := hb1'.size
    have hb3' : Below w.heap.size w w3 := hb2'.trans (hb3.mono (by omega))
    exact ⟨_, _, rs3, R, c, rfl, hm3.low (by omega), OwI.low hc3 hb2'.size, ⟨fun _ => (helm.of_red HK.out.2.1).rrf, fun h => absurd HK.out.2 h⟩, hb3'⟩
  · have hd : decide (OkM p M) = false := decide_eq_false hok
    have HK := Lib.hid (And.intro hd hok)
    clear hd hok
    go_enter Try.func18, Try.ntmps18
    go_wp2_with (go_at_call 61; refine (musable_u p _ M _ (HM.out.1.hold HB.out.1) (by omega) (fun i h => Nat.le_trans (HM.out.2 i h) (by decide))).mono ?_; rintro _ w1 ⟨rfl, hb1⟩; rw [HK.out.1])
    refine bodyPost_ret (results_tmp2 rfl _ _ _) rfl ?_
    exact ⟨_, _, fun _ => undef, [], [], rfl, OwnM.nil _ _ _, OwI.nil _ _, ⟨fun h => absurd h HK.out.2, fun _ => ⟨rfl, rfl⟩⟩, Below.next (Nat.le_refl _) HB.out.1 hb1.b⟩

theorem mReduce_p (p : Int) [hpU : U p] (v : Value) (M : List (List Int)) (w : World) (hM : MatR w v M) (hn : M.length ≤ 100) (hr : ∀ i (h : i < M.length), M[i].length ≤ 100) :
    Calls Try.prog 18 #[.agg #[.int .u64 p], v] w fun e w' => ∃ v1 v2 R c, e = .returned (.tuple #[v1, v2]) ∧ MatR w' v1 R ∧ LsI w' v2 c ∧ RedOf p M R c ∧ Below w.heap.size w w' :=
  (mReduce_o p v M w hM hn hr).mono fun _ _ ⟨v1, v2, _, R, c, e, h1, h2, h3, h4⟩ => ⟨v1, v2, R, c, e, h1.matR, h2.lst, h3, h4⟩

set_option maxHeartbeats 1000000 in
theorem mRank_p (p : Int) [hpU : U p] (v : Value) (M : List (List Int)) (w : World) (hM : MatR w v M) (hn : M.length ≤ 100) (hr : ∀ i (h : i < M.length), M[i].length ≤ 100) :
    Calls Try.prog 22 #[.agg #[.int .u64 p], v] w fun e w' => ∃ (R : List (List Int)) (c : List Nat), e = .returned (.int .i64 c.length) ∧ RedOf p M R c ∧ Below w.heap.size w w' := by
  have HM := Lib.hid (And.intro hM hr)
  clear hM hr
  have hb0 : Below w.heap.size w (w.alloc (.cells #[.int .u64 p] 27)) := Below.made (Nat.le_refl _) (Below.refl _ _) _
  go_enter Try.func22, Try.ntmps22
  go_wp2_with (go_at_call 18; refine (mReduce_p p _ M _ (HM.out.1.hold hb0) hn HM.out.2).mono ?_; rintro _ w1 ⟨v1, v2, R, c, rfl, -, hc, hred, hb1⟩; obtain ⟨a2, c2, rfl⟩ := hc.shape; have HR := Lib.hid (And.intro hred hb1); clear hc hred hb1)
  go_ret
  exact ⟨R, c, rfl, HR.out.1, Below.next (Nat.le_refl _) hb0 HR.out.2⟩

set_option maxRecDepth 100000 in
set_option maxHeartbeats 4000000 in
theorem mDeterminant_p (p : Int) [hpU : U p] (v : Value) (M : List (List Int)) (w : World) (hM : MatR w v M) (hn : M.length ≤ 100) (hr : ∀ i (h : i < M.length), M[i].length ≤ 100) :
    Calls Try.prog 34 #[.agg #[.int .u64 p], v] w fun e w' => e = .returned (.int .u64 (detI p M)) ∧ Below w.heap.size w w' := by
  obtain ⟨a0, c0, rfl⟩ := hM.shape
  have HM := Lib.hid (And.intro hM hr)
  clear hM hr
  have hb0 : Below w.heap.size w (w.alloc (.cells #[.int .u64 p] 27)) := Below.made (Nat.le_refl _) (Below.refl _ _) _
  have hf0 : (w.alloc (.cells #[.int .u64 p] 27)).cell? ⟨w.heap.size, 0, none⟩ = some (.int .u64 p) := by go_simp
  have HB := Lib.hid (And.intro hb0 hf0)
  clear hb0 hf0
  by_cases hok : OkM p M
  · have hd : decide (OkM p M) = true := decide_eq_true hok
    have h64 := hok.2.2
    have hc64 := hok.2.cols
    by_cases hsq : M.length = cols M
    · have hne : ((M.length : Int) != (cols M : Int)) = false := by rw [hsq]; simp
      have hv : detI p M = ival p (Po.det M.length (mf p M)) := by unfold detI; rw [if_pos ⟨hok, hsq⟩]
      have HK := Lib.hid (And.intro hd (And.intro hok (And.intro hsq hv)))
      have i1 : (M.length : Int) ≤ 64 := by omega
      clear hd hok hsq hv
      go_enter Try.func34, Try.ntmps34
      go_upto_region 3 with (first
        | (go_at_call 61; refine (musable_u p _ M _ (HM.out.1.hold HB.out.1) (by omega) (fun i h => Nat.le_trans (HM.out.2 i h) (by decide))).mono ?_; rintro _ w1 ⟨rfl, hb1⟩; rw [HK.out.1])
        | (go_at_call 66; refine (mcolumns_u _ M _ (HM.out.1.hold (Below.next (Nat.le_refl _) HB.out.1 hb1.b)) (by omega)).mono ?_; rintro e w2 ⟨rfl, hw2⟩; obtain rfl : w1 = w2 := hw2.symm))
      have hf1 := hb1.hold HB.out.2
      have HB1 := Lib.hid (Below.next (Nat.le_refl _) HB.out.1 hb1.b)
      have G0 := fun (w' : World) (h : Below w1.heap.size w1 w') => Below.hold h hf1
      have F := Below.refl w1.heap.size w1
      clear hf1 hb1 hw2
      go_region_held3 (fun w' => Below w1.heap.size w1 w')
        (repeat (first | assumption | refine Below.drew ?_ | refine Below.next (Nat.le_refl _) ?_ (by assumption)))
        (first
          | (go_at_call 62; refine (mcopyOf_w p HK.out.2.1.1 _ M _ (HM.out.1.hold (Below.next (Nat.le_refl _) HB1.out (by assumption))) hn HM.out.2).mono ?_; rintro _ w2 ⟨v2, rs2, rfl, hm2, -, hsz2, hb2⟩; have hs2 : Below w1.heap.size w1 w2 := Below.next (Nat.le_refl _) (by repeat (first | assumption | refine Below.drew ?_)) hb2)
          | (go_at_call 63; refine (meliminate_w p HK.out.2.1.1 _ _ rs2 (redL p M) M.length (cols M) _ (hm2.hold (by repeat (first | exact Below.refl _ _ | refine Below.drew ?_))) HK.out.2.1.mt (cols_redL p M) (by omega) (by omega) hsz2).mono ?_; rintro _ w3 ⟨vp, rs3, R, c, fac, rfl, hm3, hc3, helm, hfr, hdet, hb3⟩; have hs3 : Below w1.heap.size w1 w3 := Below.trans (by repeat (first | assumption | refine Below.drew ?_)) (hb3.mono (by first | omega | (simp; done) | (simp; omega))); obtain ⟨a5, c5, rfl⟩ := hc3.lst.shape)
          | fail)
      all_goals
        have helm' := (helm.of_red HK.out.2.1.1).part
        have hres := det_of (m := M.length) HK.out.2.1.1 (by rw [HK.out.2.2.1] at helm' ⊢; exact helm') hfr (by rw [← mf_redL HK.out.2.1.1 M]; exact hdet)
        rw [← HK.out.2.2.2] at hres
        have HE := Lib.hid (And.intro hres hs3)
        clear helm helm' hres hs3 hb3 hdet hm3 hc3 hm2 hb2 hs2
        by_cases hl : c.length < M.length
        · have i2 : (c.length : Int) < (M.length : Int) := by omega
          have HV := Lib.hid (HE.out.1.trans (if_pos hl))
          clear hl
          go_wp2
          go_ret
          exact ⟨by rw [HV.out]; rfl, Below.next (Nat.le_refl _) HB1.out HE.out.2⟩
        · have i2 : ¬ (c.length : Int) < (M.length : Int) := by omega
          have HV := Lib.hid (HE.out.1.trans (if_neg hl))
          clear hl
          go_wp2
          go_ret
          exact ⟨by rw [HV.out]; rfl, Below.next (Nat.le_refl _) HB1.out HE.out.2⟩
    · have hne : ((M.length : Int) != (cols M : Int)) = true := bne_iff_ne.2 (show (M.length : Int) ≠ (cols M : Int) by omega)
      have hv : detI p M = 0 := by unfold detI; rw [if_neg fun h => hsq h.2]
      have HK := Lib.hid (And.intro hd hv)
      clear hd hok hsq hv
      go_enter Try.func34, Try.ntmps34
      go_wp2_with (first
        | (go_at_call 61; refine (musable_u p _ M _ (HM.out.1.hold HB.out.1) (by omega) (fun i h => Nat.le_trans (HM.out.2 i h) (by decide))).mono ?_; rintro _ w1 ⟨rfl, hb1⟩; rw [HK.out.1])
        | (go_at_call 66; refine (mcolumns_u _ M _ (HM.out.1.hold (Below.next (Nat.le_refl _) HB.out.1 hb1.b)) (by omega)).mono ?_; rintro e w2 ⟨rfl, hw2⟩; obtain rfl : w1 = w2 := hw2.symm))
      go_ret
      exact ⟨by rw [HK.out.2]; rfl, Below.next (Nat.le_refl _) HB.out.1 hb1.b⟩
  · have hd : decide (OkM p M) = false := decide_eq_false hok
    have hv : detI p M = 0 := by unfold detI; rw [if_neg fun h => hok h.1]
    have HK := Lib.hid (And.intro hd hv)
    clear hd hok hv
    go_enter Try.func34, Try.ntmps34
    go_wp2_with (first
      | (go_at_call 61; refine (musable_u p _ M _ (HM.out.1.hold HB.out.1) (by omega) (fun i h => Nat.le_trans (HM.out.2 i h) (by decide))).mono ?_; rintro _ w1 ⟨rfl, hb1⟩; rw [HK.out.1]))
    go_ret
    exact ⟨by rw [HK.out.2]; rfl, Below.next (Nat.le_refl _) HB.out.1 hb1.b⟩
end Go.Proofs.Ytdcdaclkeocfpaa
