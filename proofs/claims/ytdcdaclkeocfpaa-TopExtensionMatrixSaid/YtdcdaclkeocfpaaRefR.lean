/- The walks of the reference's small functions on lists: the normal form, the degree, a coefficient. The walks of the reference's sums, differences, multiples, shifts. The walks of the reference's shift, product, value. -/
import Derived.Test.YtdcdaclkeocfpaaLst
import Derived.Test.YtdcdaclkeocfpaaPolyB
namespace Go.Proofs.Ytdcdaclkeocfpaa
open Go.RowKit

/-- A new list is returned. -/
def Gives (w : World) (l : List Int) (e : Ending) (w' : World) : Prop := ∃ v, e = .returned v ∧ Own w' w.heap.size v l ∧ Below w.heap.size w w'
theorem cut0_len (l : List Int) : (cut0 l).length ≤ l.length := by
  unfold cut0
  rw [List.length_reverse]
  exact Nat.le_trans (List.dropWhile_sublist _).length_le (by simp)
def lenOf : Value → Nat
  | .slice _ n _ => n
  | _ => 0
theorem us_map {f : Int → Int} (l : List Int) (h : ∀ x, U (f x)) : Us (l.map f) := fun y hy => by
  obtain ⟨x, _, rfl⟩ := List.mem_map.1 hy; exact h x

end Go.Proofs.Ytdcdaclkeocfpaa

namespace Go.Proofs.Ytdcdaclkeocfpaa
open Go.RowKit

/-- A new list is returned: the normal form of the polynomial f. -/
def Poly (p : Int) (f : Nat → Fin (Q p)) (w : World) (e : Ending) (w' : World) : Prop := ∃ v r, e = .returned v ∧ Own w' w.heap.size v r ∧ Is p r f ∧ Below w.heap.size w w'

theorem getD_map {f : Int → Int} (h : f 0 = 0) (l : List Int) (i : Nat) : (l.map f).getD i 0 = f (l.getD i 0) := by
  rcases Nat.lt_or_ge i l.length with hi | hi
  · rw [getD_lt _ (by simpa using hi), getD_lt _ hi]; simp
  · rw [getD_ge _ (by simpa using hi), getD_ge _ hi, h]
theorem rd_zero (p : Int) : rd p 0 = 0 := by unfold rd; split <;> simp
theorem cut0_zeros : ∀ l : List Int, (∀ x ∈ l, x = 0) → cut0 l = [] := by
  intro l
  refine snoc_induct (P := fun l => (∀ x ∈ l, x = 0) → cut0 l = []) (fun _ => rfl) ?_ l
  intro m x ih h
  obtain rfl : x = 0 := h x (by simp)
  rw [cut0_snoc_zero]
  exact ih fun y hy => h y (by simp [hy])
theorem pf_red {p : Int} (hk : known p = true) (l : List Int) : pf p (l.map (rd p)) = pf p l := funext fun i => by
  show ph p _ = ph p _
  rw [getD_map (rd_zero p), ph_rd hk]
theorem is_trim (p : Int) (l : List Int) : Is p (cut0 (l.map (rd p))) (pf p l) := by
  by_cases hk : known p = true
  · rw [← pf_red hk l]
    refine is_cut hk fun x hx => ?_
    obtain ⟨y, _, rfl⟩ := List.mem_map.1 hx
    rw [rd, if_pos hk]
    have := known_lo hk
    exact ⟨Int.emod_nonneg _ (by omega), Int.emod_lt_of_pos _ (by omega)⟩
  · have hk : known p = false := by simpa using hk
    rw [cut0_zeros _ (fun x hx => by obtain ⟨y, _, rfl⟩ := List.mem_map.1 hx; rw [rd, hk]; rfl)]
    exact is_unknown hk _
theorem Is.us {p : Int} {r : List Int} {f : Nat → Fin (Q p)} (h : Is p r f) : known p = true → ∀ x ∈ r, 0 ≤ x ∧ x < p := fun hk => by
  unfold Is at h; rw [if_pos hk] at h; exact h.1.1
theorem Is.eq {p : Int} {r : List Int} {f g : Nat → Fin (Q p)} (h : Is p r f) (e : known p = true → f = g) : Is p r g := by
  unfold Is at h ⊢
  split
  · rename_i hk; rw [if_pos hk] at h; rw [← e hk]; exact h
  · rename_i hk; rw [if_neg hk] at h; exact h
theorem Is.pf {p : Int} {r : List Int} {f : Nat → Fin (Q p)} (h : Is p r f) (hk : known p = true) : pf p r = f := by
  unfold Is at h; rw [if_pos hk] at h; exact h.2
theorem Is.nil {p : Int} {r : List Int} {f : Nat → Fin (Q p)} (h : Is p r f) (hk : known p = false) : r = [] := by
  unfold Is at h; rw [hk] at h; exact h

theorem pf_zip {p : Int} (hk : known p = true) {f : Int → Int → Int} {g : Fin (Q p) → Fin (Q p) → Fin (Q p)} (hf : ∀ x y, ph p (f x y) = g (ph p x) (ph p y)) (h0 : g 0 0 = 0) (a b : List Int) (m : Nat) (ha : a.length ≤ m) (hb : b.length ≤ m) :
    pf p ((List.range m).map fun i => f (a.getD i 0) (b.getD i 0)) = fun i => g (pf p a i) (pf p b i) := funext fun i => by
  show ph p _ = g (ph p _) (ph p _)
  rcases Nat.lt_or_ge i m with hi | hi
  · rw [getD_lt _ (by simpa using hi)]
    simp [hf]
  · rw [getD_ge _ (by simpa using hi), getD_ge a (by omega), getD_ge b (by omega), ph_zero hk, h0]

end Go.Proofs.Ytdcdaclkeocfpaa

namespace Go.Proofs.Ytdcdaclkeocfpaa
open Go.RowKit

theorem pf_nil {p : Int} (hk : known p = true) : pf p [] = Po.ze := funext fun i => by show ph p _ = 0; rw [getD_ge [] (by simp), ph_zero hk]
theorem pf_shift {p : Int} (hk : known p = true) (r : List Int) (n : Nat) : pf p (List.replicate n 0 ++ r) = Po.shn n (pf p r) := funext fun i => by
  rcases Nat.lt_or_ge i n with h | h
  · rw [Po.shn_low _ _ _ h]
    show ph p _ = 0
    rw [getD_lt _ (by simp; omega), List.getElem_append_left (by simpa using h)]
    simp [ph_zero hk]
  · obtain ⟨j, rfl⟩ : ∃ j, i = n + j := ⟨i - n, by omega⟩
    rw [Po.shn_at]
    show ph p _ = ph p _
    congr 1
    simp [List.getD, List.getElem?_append_right]
theorem pf_take {p : Int} (hk : known p = true) (a : List Int) {k : Nat} (h : k < a.length) : pf p (a.take (k + 1)) = Po.ad (pf p (a.take k)) (Po.shn k (Po.co (ph p a[k]))) := funext fun i => by
  rw [take_snoc h]
  show ph p _ = ph p _ + _
  have hl : (a.take k).length = k := by rw [List.length_take]; omega
  rcases Nat.lt_or_ge i k with h1 | h1
  · rw [Po.shn_low _ _ _ h1, getD_lt _ (by simp; omega), getD_lt _ (by omega), List.getElem_append_left (by omega)]
    grind
  · rw [getD_ge (a.take k) (by omega), ph_zero hk]
    obtain ⟨j, rfl⟩ : ∃ j, i = k + j := ⟨i - k, by omega⟩
    rw [Po.shn_at]
    cases j with
    | zero =>
      rw [getD_lt _ (by simp; omega), List.getElem_append_right (by omega)]
      simp only [Nat.add_zero, hl, Nat.sub_self, List.getElem_singleton, Po.co]
      grind
    | succ j =>
      rw [getD_ge _ (by simp; omega), ph_zero hk]
      show (0 : Fin (Q p)) = 0 + 0
      grind
theorem Is.zero (p : Int) : Is p [] (Po.ze : Nat → Fin (Q p)) := by
  by_cases hk : known p = true
  · unfold Is; rw [if_pos hk]; exact ⟨nf_nil p, pf_nil hk⟩
  · exact is_unknown (by simpa using hk) _

/-- One round of the product. -/
theorem mul_round {p : Int} {a b r r1 r2 : List Int} {k : Nat} (h : k < a.length) (h0 : Is p r (Po.cv (pf p (a.take k)) (pf p b))) (h1 : Is p r1 (Po.sc (ph p a[k]) (pf p b)))
    (h2 : Is p r2 (Po.ad (pf p r) (pf p (List.replicate k 0 ++ r1)))) : Is p r2 (Po.cv (pf p (a.take (k + 1))) (pf p b)) :=
  h2.eq fun hk => by
    rw [h0.pf hk, pf_shift hk, h1.pf hk, pf_take hk a h, Po.ad_cv, Po.cv_shn, Po.cv_co]
theorem Is.bound {p : Int} {r : List Int} {f : Nat → Fin (Q p)} (h : Is p r f) {n : Nat} (hd : known p = true → Po.Deg f n) : r.length ≤ n := by
  by_cases hk : known p = true
  · exact h.len (hd hk)
  · rw [h.nil (by simpa using hk)]; simp
theorem mul_deg {p : Int} (hk : known p = true) (a b : List Int) : Po.Deg (Po.cv (pf p a) (pf p b)) (a.length + b.length) := Po.deg_cv' (pf_deg hk a) (pf_deg hk b)

/-- The number from 0 to p - 1 that an element is; 0 where p is not known. -/
def ival (p : Int) (z : Fin (Q p)) : Int := if known p then (z.val : Int) else 0
instance {p : Int} {z : Fin (Q p)} : U (ival p z) := by
  unfold ival; split
  · rename_i hk
    have := known_hi hk
    have := z.isLt
    have := q_eq hk
    exact ⟨by omega, by omega⟩
  · infer_instance
theorem ival_of {p : Int} {n : Int} {z : Fin (Q p)} (h : known p = true → (0 ≤ n ∧ n < p) ∧ ph p n = z) (h0 : known p = false → n = 0) : n = ival p z := by
  unfold ival
  split
  · rename_i hk
    obtain ⟨h1, h2⟩ := h hk
    rw [← h2, ph_val hk, Int.emod_eq_of_lt h1.1 h1.2]
  · rename_i hk; exact h0 (by simpa using hk)
theorem ph_ival {p : Int} (hk : known p = true) (z : Fin (Q p)) : ph p (ival p z) = z := by
  unfold ival
  rw [if_pos hk]
  symm
  refine ph_ext hk ?_
  have := z.isLt
  have := q_eq hk
  rw [Int.emod_eq_of_lt (by omega) (by omega)]
theorem ad_bd {p : Int} (hk : known p = true) (a b : Int) : 0 ≤ ad p a b ∧ ad p a b < p := by
  rw [ad, if_pos hk]
  have := known_lo hk
  exact ⟨Int.emod_nonneg _ (by omega), Int.emod_lt_of_pos _ (by omega)⟩

/-- What stays in the rounds of the value. -/
def EvSt (p : Int) (a : List Int) (x : Int) (k : Nat) (out pow : Int) : Prop :=
  U out ∧ U pow ∧ (known p = true → ((0 ≤ out ∧ out < p) ∧ ph p out = Po.ev (pf p a) (ph p x) k) ∧ ph p pow = Po.pwF (ph p x) k) ∧ (known p = false → out = 0)
theorem EvSt.step {p : Int} {a : List Int} {x : Int} {k : Nat} {out pow : Int} (h : EvSt p a x k out pow) (hk : k < a.length) : EvSt p a x (k + 1) (ad p out (ml p a[k] pow)) (ml p pow x) := by
  refine ⟨inferInstance, inferInstance, fun hp => ?_, fun hp => by rw [ad, hp]; rfl⟩
  obtain ⟨⟨_, h2⟩, h3⟩ := h.2.2.1 hp
  refine ⟨⟨ad_bd hp _ _, ?_⟩, by rw [ph_ml hp, h3]; rfl⟩
  rw [ph_ad hp, ph_ml hp, h2, h3, Po.ev_snoc]
  congr 2
  show _ = ph p (a.getD k 0)
  rw [getD_lt _ hk]

end Go.Proofs.Ytdcdaclkeocfpaa
