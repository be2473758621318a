/- What an inverse is held against; the products with it. -/
import Derived.Test.YtdcdaclkeocfpaaKL
namespace Go.Proofs.Ytdcdaclkeocfpaa
open Go.RowKit Go.BigFrame
open Classical

/-- What Inverse returns. -/
structure InvOf (p : Int) (M : List (List Int)) (fb : Bool) (X : List (List Int)) : Prop where
  bad : ¬ (OkM p M ∧ M.length = cols M) → fb = false ∧ X = []
  good : OkM p M → M.length = cols M → (fb = true ∧ Mt p M.length M.length X ∧ ∀ i, i < M.length → ∀ j, j < M.length → Po.mul M.length (mf p X) (mf p M) i j = Po.one i j) ∨ (fb = false ∧ X = [] ∧ Po.det M.length (mf p M) = 0)
theorem InvOf.det {p : Int} {M X : List (List Int)} {fb : Bool} (h : InvOf p M fb X) : fb = (detI p M != 0) := by
  unfold detI
  by_cases hb : OkM p M ∧ M.length = cols M
  · rw [if_pos hb]
    rcases h.good hb.1 hb.2 with ⟨rfl, _, h2⟩ | ⟨rfl, _, h2⟩
    · have h3 := (Po.inv_det (fld hb.1.1) (one_nz hb.1.1) h2).2
      symm
      refine bne_iff_ne.2 fun e => h3 ?_
      rw [← ph_ival hb.1.1 (Po.det _ _), e, ph_zero hb.1.1]
    · rw [h2, ival_z hb.1.1]; rfl
  · rw [if_neg hb, (h.bad hb).1]; rfl
theorem InvOf.none {p : Int} {M X : List (List Int)} (h : InvOf p M false X) : X = [] := by
  by_cases hb : OkM p M ∧ M.length = cols M
  · rcases h.good hb.1 hb.2 with ⟨e, _⟩ | ⟨_, h2, _⟩
    · cases e
    · exact h2
  · exact (h.bad hb).2
theorem InvOf.some {p : Int} {M X : List (List Int)} (h : InvOf p M true X) : OkM p M ∧ M.length = cols M ∧ Mt p M.length M.length X ∧ ∀ i, i < M.length → ∀ j, j < M.length → Po.mul M.length (mf p X) (mf p M) i j = Po.one i j := by
  by_cases hb : OkM p M ∧ M.length = cols M
  · rcases h.good hb.1 hb.2 with ⟨_, h2, h3⟩ | ⟨e, _⟩
    · exact ⟨hb.1, hb.2, h2, h3⟩
    · cases e
  · exact absurd (h.bad hb).1 (by decide)
theorem ival_id {p : Int} (hk : known p = true) (i j : Nat) : ival p (Po.one i j) = if i = j then 1 else 0 := by
  unfold Po.one
  split
  · exact ival_one hk
  · exact ival_z hk
theorem Mt.okM {p : Int} (hk : known p = true) {X : List (List Int)} {n : Nat} (h : Mt p n n X) (hn : 0 < n) (h64 : n ≤ 64) : OkM p X ∧ cols X = n := by
  have hc : cols X = n := by rw [cols_at (by rw [h.len]; exact hn), h.row 0 (by rw [h.len]; exact hn)]
  exact ⟨⟨hk, fun i hi => by rw [hc]; exact ⟨h.row i hi, by rw [h.row i hi]; exact h64⟩, by rw [h.len]; exact h64⟩, hc⟩
theorem mulM_one {p : Int} {A B : List (List Int)} {n : Nat} (ha : OkM p A) (hb : OkM p B) (la : A.length = n) (lb : B.length = n) (ca : cols A = n) (cb : cols B = n) (h : ∀ i, i < n → ∀ j, j < n → Po.mul n (mf p A) (mf p B) i j = Po.one i j) : mulM p A B = idL n := by
  unfold mulM
  rw [if_pos ⟨ha, hb, by rw [lb, ca]⟩, la, lb, cb]
  refine List.map_congr_left fun i hi => List.map_congr_left fun j hj => ?_
  rw [h i (List.mem_range.1 hi) j (List.mem_range.1 hj), ival_id ha.1]
/-- Both products with the inverse are the identity. -/
theorem InvOf.products {p : Int} {M X : List (List Int)} (h : InvOf p M true X) (hn : 0 < M.length) : mulM p X M = idL M.length ∧ mulM p M X = idL M.length := by
  obtain ⟨hok, hc, hm, hx⟩ := h.some
  obtain ⟨hX, cX⟩ := hm.okM hok.1 hn hok.2.2
  exact ⟨mulM_one hX hok hm.len rfl cX hc.symm hx, mulM_one hok hX rfl hm.len hc.symm cX (Po.inv_right (fld hok.1) (one_nz hok.1) hx)⟩
/-- Inverse's answer is one. -/
theorem InvOf.unique {p : Int} {M X Y : List (List Int)} {a b : Bool} (h : InvOf p M a X) (k : InvOf p M b Y) : a = b ∧ X = Y := by
  obtain rfl : a = b := by rw [h.det, k.det]
  refine ⟨rfl, ?_⟩
  cases a with
  | false => rw [h.none, k.none]
  | true =>
    obtain ⟨hok, _, hm, hx⟩ := h.some
    obtain ⟨_, _, km, kx⟩ := k.some
    exact Mt.ext hok.1 hm km (Po.inv_unique (fld hok.1) (one_nz hok.1) hx kx)
/-- The determinant of a product. -/
theorem detI_mul {p : Int} {A B : List (List Int)} (ha : OkM p A) (hb : OkM p B) (sa : A.length = cols A) (sb : B.length = cols B) (hab : A.length = B.length) : detI p (mulM p A B) = ml p (detI p A) (detI p B) := by
  have hk := ha.1
  have hm : mulM p A B = (List.range A.length).map fun i => (List.range (cols B)).map fun j => ival p (Po.mul B.length (mf p A) (mf p B) i j) := by unfold mulM; rw [if_pos ⟨ha, hb, by omega⟩]
  have hl : (mulM p A B).length = A.length := by rw [hm]; simp
  have hrow : ∀ i (h : i < (mulM p A B).length), (mulM p A B)[i].length = A.length := fun i h => by simp only [hm, List.getElem_map, List.length_map, List.length_range]; omega
  have hc : cols (mulM p A B) = A.length := by
    by_cases h0 : 0 < A.length
    · rw [cols_at (by rw [hl]; exact h0), hrow]
    · rw [show mulM p A B = [] from List.length_eq_zero_iff.1 (by omega)]; simp [cols]; omega
  have hok : OkM p (mulM p A B) := ⟨hk, fun i h => by rw [hc, hrow i h]; exact ⟨rfl, ha.2.2⟩, by rw [hl]; exact ha.2.2⟩
  unfold detI
  rw [if_pos ⟨hok, by rw [hl, hc]⟩, if_pos ⟨ha, sa⟩, if_pos ⟨hb, sb⟩, ml_ival hk, ph_ival hk, ph_ival hk, hl, ← hab, ← Po.det_mul (fld hk)]
  congr 1
  refine Po.det_congr _ fun i hi j hj => ?_
  rw [mf_row (by rw [hl]; exact hi)]
  simp only [hm, List.getElem_map, List.getElem_range]
  rw [getD_lt _ (by simp; omega)]
  simp only [List.getElem_map, List.getElem_range]
  rw [ph_ival hk, ← hab]
end Go.Proofs.Ytdcdaclkeocfpaa
