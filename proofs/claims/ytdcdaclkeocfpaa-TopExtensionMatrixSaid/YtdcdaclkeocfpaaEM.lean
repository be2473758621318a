/- Elements of the extension as matrices: the walk of the closure, the products, determinants and inverses. -/
import Derived.Test.YtdcdaclkeocfpaaAW
namespace Go.Proofs.Ytdcdaclkeocfpaa
open Go.RowKit Go.BigFrame
open Classical

/-- The matrix of an element. -/
def A2 (p : Int) (x : Int × Int) : List (List Int) := [[rd p x.1, ml p x.2 (gen p)], [rd p x.2, rd p x.1]]
theorem det2 {q : Nat} [NeZero q] (M : Nat → Nat → Fin q) : Po.det 2 M = M 0 0 * M 1 1 - M 1 0 * M 0 1 := by
  show (0 + Po.sg 0 * (M 0 0 * (0 + Po.sg 0 * (M 1 1 * 1)))) + Po.sg 1 * (M 1 0 * (0 + Po.sg 0 * (M 0 1 * 1))) = _
  rw [show (Po.sg 0 : Fin q) = 1 from rfl, show (Po.sg 1 : Fin q) = 0 - 1 from rfl]
  grind
theorem rd_red {p : Int} (hk : known p = true) (x : Int) : 0 ≤ rd p x ∧ rd p x < p := by
  have hp := known_lo hk
  rw [rd, if_pos hk]; exact ⟨Int.emod_nonneg _ (by omega), Int.emod_lt_of_pos _ (by omega)⟩
theorem ml_red {p : Int} (hk : known p = true) (x y : Int) : 0 ≤ ml p x y ∧ ml p x y < p := by
  have hp := known_lo hk
  rw [ml, if_pos hk]; exact ⟨Int.emod_nonneg _ (by omega), Int.emod_lt_of_pos _ (by omega)⟩
theorem A2_mt {p : Int} (hk : known p = true) (x : Int × Int) : Mt p 2 2 (A2 p x) := by
  refine ⟨rfl, fun i hi => ?_, fun i hi y hy => ?_⟩
  · match i, hi with
    | 0, _ => rfl
    | 1, _ => rfl
  · match i, hi with
    | 0, _ =>
      rcases List.mem_cons.1 hy with rfl | hy
      · exact rd_red hk _
      · rcases List.mem_cons.1 hy with rfl | hy
        · exact ml_red hk _ _
        · cases hy
    | 1, _ =>
      rcases List.mem_cons.1 hy with rfl | hy
      · exact rd_red hk _
      · rcases List.mem_cons.1 hy with rfl | hy
        · exact rd_red hk _
        · cases hy
theorem A2_ok {p : Int} (hk : known p = true) (x : Int × Int) : OkM p (A2 p x) ∧ (A2 p x).length = cols (A2 p x) := ⟨((A2_mt hk x).okM hk (by decide) (by decide)).1, rfl⟩
theorem A2_mul {p : Int} (hk : known p = true) (x y : Int × Int) : ∀ i, i < 2 → ∀ j, j < 2 → Po.mul 2 (mf p (A2 p x)) (mf p (A2 p y)) i j = mf p (A2 p (Ext.emul p x y)) i j := fun i hi j hj => by
  show (0 + mf p (A2 p x) i 0 * mf p (A2 p y) 0 j) + mf p (A2 p x) i 1 * mf p (A2 p y) 1 j = _
  have h1 := fun a => ph_rd (p := p) hk a
  have h2 := fun a b => ph_ml (p := p) hk a b
  have h3 := fun a b => ph_ad (p := p) hk a b
  match i, j, hi, hj with
  | 0, 0, _, _ =>
    show (0 + ph p (rd p x.1) * ph p (rd p y.1)) + ph p (ml p x.2 (gen p)) * ph p (rd p y.2) = ph p (rd p (Ext.emul p x y).1)
    simp only [Ext.emul, h1, h2, h3]; grind
  | 0, 1, _, _ =>
    show (0 + ph p (rd p x.1) * ph p (ml p y.2 (gen p))) + ph p (ml p x.2 (gen p)) * ph p (rd p y.1) = ph p (ml p (Ext.emul p x y).2 (gen p))
    simp only [Ext.emul, h1, h2, h3]; grind
  | 1, 0, _, _ =>
    show (0 + ph p (rd p x.2) * ph p (rd p y.1)) + ph p (rd p x.1) * ph p (rd p y.2) = ph p (rd p (Ext.emul p x y).2)
    simp only [Ext.emul, h1, h2, h3]; grind
  | 1, 1, _, _ =>
    show (0 + ph p (rd p x.2) * ph p (ml p y.2 (gen p))) + ph p (rd p x.1) * ph p (rd p y.1) = ph p (rd p (Ext.emul p x y).1)
    simp only [Ext.emul, h1, h2, h3]; grind
theorem mulM_mt {p : Int} {A B : List (List Int)} {n : Nat} (ha : OkM p A) (hb : OkM p B) (la : A.length = n) (lb : B.length = n) (ca : cols A = n) (cb : cols B = n) :
    Mt p n n (mulM p A B) ∧ ∀ i, i < n → ∀ j, j < n → mf p (mulM p A B) i j = Po.mul n (mf p A) (mf p B) i j := by
  have e : mulM p A B = (List.range n).map fun i => (List.range n).map fun j => ival p (Po.mul n (mf p A) (mf p B) i j) := by
    unfold mulM
    rw [if_pos ⟨ha, hb, by rw [lb, ca]⟩, la, lb, cb]
  refine ⟨⟨by rw [e]; simp, fun i hi => by simp [e], fun i hi y hy => ?_⟩, fun i hi j hj => ?_⟩
  · simp only [e, List.getElem_map, List.mem_map] at hy
    obtain ⟨j, _, rfl⟩ := hy
    exact ival_range ha.1 _
  · rw [mf_row (by rw [e]; simpa using hi), getD_lt _ (by simp [e]; exact hj)]
    simp only [e, List.getElem_map, List.getElem_range]
    exact ph_ival ha.1 _
/-- The product of the matrices is that of the elements. -/
theorem A2_mulM {p : Int} (hk : known p = true) (x y : Int × Int) : mulM p (A2 p x) (A2 p y) = A2 p (Ext.emul p x y) := by
  obtain ⟨h1, h2⟩ := mulM_mt (n := 2) (A2_ok hk x).1 (A2_ok hk y).1 rfl rfl rfl rfl
  exact Mt.ext hk h1 (A2_mt hk _) fun i hi j hj => by rw [h2 i hi j hj, A2_mul hk x y i hi j hj]
/-- The determinant is the norm. -/
theorem A2_det {p : Int} (hk : known p = true) (x0 x1 : Int) : detI p (A2 p (x0, x1)) = nm p x0 x1 := by
  unfold detI
  rw [if_pos (A2_ok hk _)]
  show ival p (Po.det 2 _) = _
  rw [det2, ← nm_sub]
  have h0 : sb p (ml p x0 x0) (ml p (gen p) (ml p x1 x1)) = ival p (ph p (sb p (ml p x0 x0) (ml p (gen p) (ml p x1 x1)))) := by
    have hp := known_lo hk
    rw [← ival_ph hk, Int.emod_eq_of_lt] <;> (rw [sb, if_pos hk]; first | exact Int.emod_nonneg _ (by omega) | exact Int.emod_lt_of_pos _ (by omega))
  rw [h0]
  congr 1
  show ph p (rd p x0) * ph p (rd p x0) - ph p (rd p x1) * ph p (ml p x1 (gen p)) = _
  simp only [ph_rd hk, ph_ml hk, ph_sb hk]
  grind
theorem A2_one {p : Int} (hk : known p = true) : ∀ i, i < 2 → ∀ j, j < 2 → mf p (A2 p (1, 0)) i j = Po.one i j := fun i hi j hj => by
  match i, j, hi, hj with
  | 0, 0, _, _ => exact (ph_rd hk 1).trans (ph_one hk)
  | 0, 1, _, _ => exact ((ph_ml hk 0 (gen p)).trans (by rw [ph_zero hk]; grind : ph p 0 * ph p (gen p) = 0))
  | 1, 0, _, _ => exact (ph_rd hk 0).trans (ph_zero hk)
  | 1, 1, _, _ => exact (ph_rd hk 1).trans (ph_one hk)
/-- The inverse is that of the element; the zero has none. -/
theorem A2_inv {p : Int} (hk : known p = true) {x0 x1 : Int} {fb : Bool} {X : List (List Int)} (h : InvOf p (A2 p (x0, x1)) fb X) :
    (fb = false ∧ rd p x0 = 0 ∧ rd p x1 = 0) ∨ (fb = true ∧ ¬ (rd p x0 = 0 ∧ rd p x1 = 0) ∧ X = A2 p (i0 p x0 x1, i1 p x0 x1)) := by
  have hd := h.det
  rw [A2_det hk] at hd
  have hz := Ext.norm_zero hk (x0, x1)
  have hr0 : rd p x0 = x0 % p := by rw [rd, if_pos hk]
  have hr1 : rd p x1 = x1 % p := by rw [rd, if_pos hk]
  rw [hr0, hr1]
  by_cases h0 : x0 % p = 0 ∧ x1 % p = 0
  · have e : nm p x0 x1 = 0 := hz.2 h0
    rw [e] at hd
    exact .inl ⟨hd, h0⟩
  · have e : nm p x0 x1 ≠ 0 := fun e => h0 (hz.1 e)
    have e2 : fb = true := by rw [hd]; exact bne_iff_ne.2 e
    subst e2
    refine .inr ⟨rfl, h0, (h.unique (b := true) (Y := A2 p (i0 p x0 x1, i1 p x0 x1)) ⟨fun hb => absurd (A2_ok hk _) hb, fun _ _ => .inl ⟨rfl, A2_mt hk _, fun i hi j hj => ?_⟩⟩).2⟩
    have e3 := A2_mul hk (i0 p x0 x1, i1 p x0 x1) (x0, x1) i hi j hj
    have e4 : Ext.emul p (i0 p x0 x1, i1 p x0 x1) (x0, x1) = (1, 0) := by
      have h5 := Ext.inv_mul hk (x0, x1) h0
      rw [Ext.field_mulc hk] at h5
      exact h5
    rw [e4, A2_one hk i hi j hj] at e3
    exact e3
end Go.Proofs.Ytdcdaclkeocfpaa
