/- What walks of a fast transform want: shifts, inverse roots, folds, products by values, the least power of two. -/
import Derived.Test.YtnmbggdfcgbniaaFft
import Derived.Test.YtnmbggdfcgbniaaTJ
namespace Go.Proofs.Ytnmbggdfcgbniaa
open Go.RowKit
open Classical
namespace Po
variable {q : Nat} [NeZero q]

/-- A point that is shifted: the coefficients are scaled. -/
theorem ev_shift (f : Nat → Fin q) (s x : Fin q) (n : Nat) : ev f (s * x) n = ev (fun i => f i * pwF s i) x n := by
  rw [ev_sm, ev_sm]
  exact sm_congr fun i _ => by rw [pwF_mulx]; grind
theorem ev_dom (f : Nat → Fin q) (s w : Fin q) (n k : Nat) : ev f (dom s w k) n = vl (fun i => f i * pwF s i) w n 0 1 k := by
  rw [vl_ev, ← ev_shift]; rfl
/-- The powers of the inverse root. -/
theorem pw_inv {w u : Fin q} {n : Nat} (hw : Prim w n) (hu : w * u = 1) {i : Nat} (hi : i < n) : pwF u i = pwF w ((n - i) % n) := by
  have h1 : pwF w i * pwF u i = 1 := by rw [← pwF_mulx, hu, pwF_one]
  have h2 : pwF w i * pwF w ((n - i) % n) = 1 := by
    rw [← pwF_add]
    cases i with
    | zero => simp; rfl
    | succ i =>
      rw [Nat.mod_eq_of_lt (by omega), show i + 1 + (n - (i + 1)) = n by omega]
      exact hw.1
  have h3 : ∀ x y z : Fin q, x * y = 1 → x * z = 1 → y = z := fun x y z a b => by
    have e1 : y = y * (x * z) := by rw [b]; grind
    have e2 : y * (x * z) = (x * y) * z := by grind
    rw [e1, e2, a]; grind
  exact h3 _ _ _ h1 h2
theorem ev_inv {w u : Fin q} {n : Nat} (hw : Prim w n) (hu : w * u = 1) (f : Nat → Fin q) {i : Nat} (hi : i < n) : ev f (pwF w ((n - i) % n)) n = vl f u n 0 1 i := by
  rw [vl_ev, pw_inv hw hu hi]
theorem sm_fold (g : Nat → Fin q) (n : Nat) : ∀ J, sm g (J * n) = sm (fun i => sm (fun j => g (j * n + i)) J) n
  | 0 => by
    rw [Nat.zero_mul]
    exact (sm_zero n).symm
  | J + 1 => by
    rw [Nat.add_mul, Nat.one_mul, sm_halves, sm_fold g n J, ← sm_add]
    rfl
/-- The folded coefficients have the same values where x^n = c. -/
theorem ev_fold (f : Nat → Fin q) {x c : Fin q} {n : Nat} (hx : pwF x n = c) (J : Nat) : ev f x (J * n) = ev (fun i => sm (fun j => f (j * n + i) * pwF c j) J) x n := by
  rw [ev_sm, ev_sm, sm_fold]
  refine sm_congr fun i _ => ?_
  have h : sm (fun j => f (j * n + i) * pwF c j) J * pwF x i = pwF x i * sm (fun j => f (j * n + i) * pwF c j) J := by grind
  rw [h, ← sm_mul]
  refine sm_congr fun j _ => ?_
  rw [pwF_add, Nat.mul_comm j n, pwF_pow, hx]
  grind
theorem dom_pow {s w : Fin q} {n : Nat} (hw : Prim w n) (k : Nat) : pwF (dom s w k) n = pwF s n := by
  rw [dom, pwF_mulx, hw.pow]; grind
end Po

theorem pf_pad {p : Int} (l : List Int) (n : Nat) : pf p (l ++ List.replicate n 0) = pf p l := funext fun i => by
  show ph p _ = ph p _
  congr 1
  rcases Nat.lt_or_ge i l.length with h | h
  · rw [getD_lt _ (by simp; omega), getD_lt _ h, List.getElem_append_left h]
  · rw [getD_ge _ h]
    rcases Nat.lt_or_ge i (l.length + n) with h2 | h2
    · rw [getD_lt _ (by simp; omega), List.getElem_append_right h]; simp
    · rw [getD_ge _ (by simp; omega)]
/-- The value of a longer list of zeros is the same. -/
theorem ev_pad {p : Int} (hk : known p = true) (l : List Int) (n : Nat) (x : Fin (Q p)) : Po.ev (pf p (l ++ List.replicate n 0)) x (l ++ List.replicate n 0).length = Po.ev (pf p l) x l.length := by
  rw [pf_pad]
  exact Po.ev_any (pf_deg hk l) (by simp) x

/-- Doubled until it is enough. -/
theorem fits_done {n j : Nat} (h1 : n ≤ 2 ^ j) (h2 : j = 0 ∨ 2 ^ (j - 1) < n) : 2 ^ j = fitsN n := by
  unfold fitsN
  cases j with
  | zero => rw [if_pos (by simpa using h1)]
  | succ j =>
    have h3 : 2 ^ j < n := by simpa using h2
    have hp : 0 < 2 ^ j := Nat.two_pow_pos j
    rw [if_neg (by omega)]
    congr 2
    exact ((Nat.log2_eq_iff (by omega)).2 ⟨by omega, by omega⟩).symm
theorem fits_pow (n : Nat) : ∃ j, fitsN n = 2 ^ j := by
  unfold fitsN
  split
  · exact ⟨0, rfl⟩
  · exact ⟨_, rfl⟩
theorem fits_le (n : Nat) : n ≤ fitsN n := by
  unfold fitsN
  split
  · omega
  · have := @Nat.lt_log2_self (n - 1)
    omega
theorem mulL_len (p : Int) (a b : List Int) : (mulL p a b).length = a.length + b.length - 1 := by simp [mulL]
theorem resM_len (p : Int) (a b : List Int) : (resM p a b).length ≤ a.length + b.length := by
  unfold resM; split
  · rw [mulL_len]; omega
  · simp
/-- The value of a product. -/
theorem mulL_ev {p : Int} (hk : known p = true) {a b : List Int} (ha : a.length ≠ 0) (hb : b.length ≠ 0) (x : Fin (Q p)) :
    Po.ev (pf p (mulL p a b)) x (mulL p a b).length = Po.ev (pf p a) x a.length * Po.ev (pf p b) x b.length := by
  obtain ⟨m, hm⟩ : ∃ m, a.length = m + 1 := ⟨a.length - 1, by omega⟩
  obtain ⟨n, hn⟩ : ∃ n, b.length = n + 1 := ⟨b.length - 1, by omega⟩
  have da := pf_deg hk a
  have db := pf_deg hk b
  rw [mulL_len, ← Po.ev_cv da db]
  have hd : Po.Deg (Po.cv (pf p a) (pf p b)) (a.length + b.length - 1) := by
    rw [hm] at da
    rw [hn] at db
    rw [show a.length + b.length - 1 = m + n + 1 by omega]
    exact (Po.deg_cv da db).2
  rw [Po.ev_any hd (m := a.length + b.length) (by omega)]
  refine ev_first x fun i hi => ?_
  rw [pf_el _ (by rw [mulL_len]; exact hi)]
  simp only [mulL, List.getElem_map, List.getElem_range, ph_ival hk]
theorem resM_ev {p : Int} {a b : List Int} (hM : errM p a b = 0) (x : Fin (Q p)) :
    Po.ev (pf p (resM p a b)) x (resM p a b).length = Po.ev (pf p a) x a.length * Po.ev (pf p b) x b.length := by
  have hk : known p = true := by
    unfold errM at hM
    split at hM
    · assumption
    · omega
  by_cases ha : a.length = 0
  · have e : resM p a b = [] := by rw [resM, if_neg (fun h => h.2.1 ha)]
    rw [e, ha]
    show (0 : Fin (Q p)) = 0 * _
    grind
  · by_cases hb : b.length = 0
    · have e : resM p a b = [] := by rw [resM, if_neg (fun h => h.2.2 hb)]
      rw [e, hb]
      show (0 : Fin (Q p)) = _ * 0
      grind
    · have e : resM p a b = mulL p a b := by rw [resM, if_pos ⟨hM, ha, hb⟩]
      rw [e]
      exact mulL_ev hk ha hb x
/-- The product out of the products of the values. -/
theorem mul_by_values {p s : Int} {n : Nat} {a b v : List Int} (h : errD p s n = 0) (ha : a.length ≠ 0) (hb : b.length ≠ 0) (hn : a.length + b.length - 1 ≤ n) (hv : v.length = n)
    (hvv : ∀ k (g : k < v.length), v[k] = ival p (Po.ev (pf p a) (dpt p s n k) a.length * Po.ev (pf p b) (dpt p s n k) b.length)) :
    intL p s v = mulL p a b ++ List.replicate (n - (a.length + b.length - 1)) 0 := by
  have hk := (errD_zero.1 h).1.1.1
  have hpl := known_lo hk
  have hlen : (mulL p a b ++ List.replicate (n - (a.length + b.length - 1)) 0).length = n := by rw [List.length_append, mulL_len, List.length_replicate]; omega
  refine same_values h (by rw [intL_len, hv]) hlen (intL_red hk) (fun y hy => ?_) fun k hkn => ?_
  · rcases List.mem_append.1 hy with h1 | h1
    · simp only [mulL, List.mem_map] at h1
      obtain ⟨i, _, rfl⟩ := h1
      exact ival_range hk _
    · obtain rfl := List.eq_of_mem_replicate h1
      omega
  · have h1 := intL_ev (p := p) (s := s) (v := v) (by rw [hv]; exact h) (k := k) (by omega)
    have h2 := ev_pad hk (mulL p a b) (n - (a.length + b.length - 1)) (dpt p s n k)
    rw [hlen, mulL_ev hk ha hb] at h2
    rw [h2]
    simp only [hv] at h1
    rw [h1, hvv k (by omega), ph_ival hk]
end Go.Proofs.Ytnmbggdfcgbniaa
