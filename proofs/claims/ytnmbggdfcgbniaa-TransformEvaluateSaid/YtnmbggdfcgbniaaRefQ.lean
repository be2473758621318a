/- The walks of the reference's sums, differences, multiples, shifts. -/
import Derived.Test.YtnmbggdfcgbniaaRefP
namespace Go.Proofs.Ytnmbggdfcgbniaa
open Go.RowKit

/-- A new list is returned: the normal form of the polynomial f. -/
def Poly (p : Int) (f : Nat → Fin (Q p)) (w : World) (e : Ending) (w' : World) : Prop := ∃ v r, e = .returned v ∧ Own w' w.heap.size v r ∧ Is p r f ∧ Below w.heap.size w w'

theorem getD_map {f : Int → Int} (h : f 0 = 0) (l : List Int) (i : Nat) : (l.map f).getD i 0 = f (l.getD i 0) := by
  rcases Nat.lt_or_ge i l.length with hi | hi
  · rw [getD_lt _ (by simpa using hi), getD_lt _ hi]; simp
  · rw [getD_ge _ (by simpa using hi), getD_ge _ hi, h]
theorem rd_zero (p : Int) : rd p 0 = 0 := by unfold rd; split <;> simp
theorem cut0_zeros : ∀ l : List Int, (∀ x ∈ l, x = 0) → cut0 l = [] := by
  intro l
  refine snoc_induct (P := fun l => (∀ x ∈ l, x = 0) → cut0 l = []) (fun _ => rfl) ?_ l
  intro m x ih h
  obtain rfl : x = 0 := h x (by simp)
  rw [cut0_snoc_zero]
  exact ih fun y hy => h y (by simp [hy])
theorem pf_red {p : Int} (hk : known p = true) (l : List Int) : pf p (l.map (rd p)) = pf p l := funext fun i => by
  show ph p _ = ph p _
  rw [getD_map (rd_zero p), ph_rd hk]
theorem is_trim (p : Int) (l : List Int) : Is p (cut0 (l.map (rd p))) (pf p l) := by
  by_cases hk : known p = true
  · rw [← pf_red hk l]
    refine is_cut hk fun x hx => ?_
    obtain ⟨y, _, rfl⟩ := List.mem_map.1 hx
    rw [rd, if_pos hk]
    have := known_lo hk
    exact ⟨Int.emod_nonneg _ (by omega), Int.emod_lt_of_pos _ (by omega)⟩
  · have hk : known p = false := by simpa using hk
    rw [cut0_zeros _ (fun x hx => by obtain ⟨y, _, rfl⟩ := List.mem_map.1 hx; rw [rd, hk]; rfl)]
    exact is_unknown hk _
theorem Is.us {p : Int} {r : List Int} {f : Nat → Fin (Q p)} (h : Is p r f) : known p = true → ∀ x ∈ r, 0 ≤ x ∧ x < p := fun hk => by
  unfold Is at h; rw [if_pos hk] at h; exact h.1.1
theorem Is.eq {p : Int} {r : List Int} {f g : Nat → Fin (Q p)} (h : Is p r f) (e : known p = true → f = g) : Is p r g := by
  unfold Is at h ⊢
  split
  · rename_i hk; rw [if_pos hk] at h; rw [← e hk]; exact h
  · rename_i hk; rw [if_neg hk] at h; exact h
theorem Is.pf {p : Int} {r : List Int} {f : Nat → Fin (Q p)} (h : Is p r f) (hk : known p = true) : pf p r = f := by
  unfold Is at h; rw [if_pos hk] at h; exact h.2
theorem Is.nil {p : Int} {r : List Int} {f : Nat → Fin (Q p)} (h : Is p r f) (hk : known p = false) : r = [] := by
  unfold Is at h; rw [hk] at h; exact h

theorem pf_zip {p : Int} (hk : known p = true) {f : Int → Int → Int} {g : Fin (Q p) → Fin (Q p) → Fin (Q p)} (hf : ∀ x y, ph p (f x y) = g (ph p x) (ph p y)) (h0 : g 0 0 = 0) (a b : List Int) (m : Nat) (ha : a.length ≤ m) (hb : b.length ≤ m) :
    pf p ((List.range m).map fun i => f (a.getD i 0) (b.getD i 0)) = fun i => g (pf p a i) (pf p b i) := funext fun i => by
  show ph p _ = g (ph p _) (ph p _)
  rcases Nat.lt_or_ge i m with hi | hi
  · rw [getD_lt _ (by simpa using hi)]
    simp [hf]
  · rw [getD_ge _ (by simpa using hi), getD_ge a (by omega), getD_ge b (by omega), ph_zero hk, h0]

end Go.Proofs.Ytnmbggdfcgbniaa
