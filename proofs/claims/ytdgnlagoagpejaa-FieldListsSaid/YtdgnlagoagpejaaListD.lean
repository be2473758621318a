/- What the loops of Inverses compute: products of the numbers before each one, and back. -/
import Derived.Test.YtdgnlagoagpejaaListC
import Derived.Test.YtdgnlagoagpejaaLawG
namespace Go.Proofs.Ytdgnlagoagpejaa
open Go.RowKit

/-- u is the inverse of x modulo p, or both are 0. -/
def InvOf (p x u : Int) : Prop := 0 ≤ u ∧ u < p ∧ (u * x % p = 1 ∨ u = 0 ∧ x % p = 0)
/-- The product of the numbers before the k-th one that are not 0. -/
def pp (p : Int) (f : Nat → Int) : Nat → Int
  | 0 => 1
  | k + 1 => if f k % p = 0 then pp p f k else pp p f k * (f k % p) % p
theorem pp_lo {p : Int} (hp : 17 ≤ p) (f : Nat → Int) : ∀ k, 0 ≤ pp p f k ∧ pp p f k < p := by
  intro k
  induction k with
  | zero => simp [pp]; omega
  | succ k ih =>
    unfold pp; split
    · exact ih
    · exact ⟨Int.emod_nonneg _ (by omega), Int.emod_lt_of_pos _ (by omega)⟩
theorem unit_mul {p a b : Int} (hk : known p = true) (ha0 : 0 ≤ a) (hb0 : 0 ≤ b) (ha : a % p ≠ 0) (hb : b % p ≠ 0) : a * b % p ≠ 0 := by
  intro h
  have hp := known_lo hk
  have h1 := fermat_int hk ha0 ha
  have h2 := fermat_int hk hb0 hb
  have h3 : (a * b) ^ (p - 1).toNat % p = 1 := by
    rw [Int.mul_pow, Int.mul_emod, h1, h2]; exact Int.emod_eq_of_lt (by omega) (by omega)
  obtain ⟨m, hm⟩ : ∃ m, (p - 1).toNat = m + 1 := ⟨(p - 1).toNat - 1, by omega⟩
  rw [← emod_pow, h, hm, Int.pow_succ, Int.mul_zero, Int.zero_emod] at h3
  exact absurd h3 (by decide)
theorem pp_unit {p : Int} (hk : known p = true) (f : Nat → Int) : ∀ k, pp p f k % p ≠ 0 := by
  have hp := known_lo hk
  intro k
  induction k with
  | zero => rw [pp, Int.emod_eq_of_lt (by omega) (by omega)]; decide
  | succ k ih =>
    unfold pp; split
    · exact ih
    · rename_i h
      rw [Int.emod_emod]
      exact unit_mul hk (pp_lo hp f k).1 (Int.emod_nonneg _ (by omega)) ih (by rw [Int.emod_emod]; exact h)

/-- One round of the way back: the list of results, and the inverse of the product so far. -/
def backStep (p : Int) (f : Nat → Int) (s : (Nat → Int) × Int) (i : Nat) : (Nat → Int) × Int :=
  if f i % p = 0 then (fun j => if j = i then 0 else s.1 j, s.2) else (fun j => if j = i then s.1 i * s.2 % p else s.1 j, s.2 * (f i % p) % p)
def backSt (p : Int) (f : Nat → Int) (n : Nat) (l : List (Fin n)) : (Nat → Int) × Int := l.foldl (fun s x => backStep p f s x.val) (pp p f, iv p (pp p f n))
theorem backSt_snoc (p : Int) (f : Nat → Int) (n : Nat) (l : List (Fin n)) (x : Fin n) : backSt p f n (l ++ [x]) = backStep p f (backSt p f n l) x.val := by
  simp [backSt, List.foldl_append]
theorem backStep_range {p : Int} (hp : 17 ≤ p) (f : Nat → Int) (s : (Nat → Int) × Int) (i : Nat) (h : (∀ j, 0 ≤ s.1 j ∧ s.1 j < p) ∧ 0 ≤ s.2 ∧ s.2 < p) :
    (∀ j, 0 ≤ (backStep p f s i).1 j ∧ (backStep p f s i).1 j < p) ∧ 0 ≤ (backStep p f s i).2 ∧ (backStep p f s i).2 < p := by
  obtain ⟨h1, h2, h3⟩ := h
  unfold backStep
  split
  · refine ⟨fun j => ?_, h2, h3⟩
    show 0 ≤ (if j = i then 0 else s.1 j) ∧ (if j = i then 0 else s.1 j) < p
    split
    · omega
    · exact h1 j
  · refine ⟨fun j => ?_, Int.emod_nonneg _ (by omega), Int.emod_lt_of_pos _ (by omega)⟩
    show 0 ≤ (if j = i then s.1 i * s.2 % p else s.1 j) ∧ (if j = i then s.1 i * s.2 % p else s.1 j) < p
    split
    · exact ⟨Int.emod_nonneg _ (by omega), Int.emod_lt_of_pos _ (by omega)⟩
    · exact h1 j
theorem backSt_range {p : Int} (hk : known p = true) (f : Nat → Int) (n : Nat) (l : List (Fin n)) :
    (∀ j, 0 ≤ (backSt p f n l).1 j ∧ (backSt p f n l).1 j < p) ∧ 0 ≤ (backSt p f n l).2 ∧ (backSt p f n l).2 < p := by
  have hp := known_lo hk
  have gen : ∀ (l : List (Fin n)) (s : (Nat → Int) × Int), ((∀ j, 0 ≤ s.1 j ∧ s.1 j < p) ∧ 0 ≤ s.2 ∧ s.2 < p) →
      (∀ j, 0 ≤ (l.foldl (fun s x => backStep p f s x.val) s).1 j ∧ (l.foldl (fun s x => backStep p f s x.val) s).1 j < p) ∧ 0 ≤ (l.foldl (fun s x => backStep p f s x.val) s).2 ∧ (l.foldl (fun s x => backStep p f s x.val) s).2 < p := by
    intro l
    induction l with
    | nil => intro s h; exact h
    | cons x l ih => intro s h; exact ih _ (backStep_range hp f s x.val h)
  refine gen l _ ⟨pp_lo hp f, iv_lo, ?_⟩
  rw [iv, pw, if_pos hk]; exact Int.emod_lt_of_pos _ (by omega)
/-- What holds when the numbers from q on have been passed. -/
def BackInv (p : Int) (f : Nat → Int) (n q : Nat) (s : (Nat → Int) × Int) : Prop :=
  s.2 * pp p f q % p = 1 ∧ (∀ i, i < q → s.1 i = pp p f i) ∧ (∀ i, q ≤ i → i < n → InvOf p (f i) (s.1 i))
theorem backInv_step {p : Int} (hk : known p = true) (f : Nat → Int) (n q : Nat) (s : (Nat → Int) × Int) (h : BackInv p f n (q + 1) s) : BackInv p f n q (backStep p f s q) := by
  have hp := known_lo hk
  obtain ⟨h1, h2, h3⟩ := h
  unfold pp at h1
  unfold backStep
  by_cases hz : f q % p = 0
  · rw [if_pos hz] at h1 ⊢
    refine ⟨h1, fun i hi => ?_, fun i hi hin => ?_⟩
    · show (if i = q then 0 else s.1 i) = _
      rw [if_neg (by omega)]; exact h2 i (by omega)
    · show InvOf p (f i) (if i = q then 0 else s.1 i)
      by_cases hiq : i = q
      · subst hiq; rw [if_pos rfl]; exact ⟨Int.le_refl _, by omega, .inr ⟨rfl, hz⟩⟩
      · rw [if_neg hiq]; exact h3 i (by omega) hin
  · rw [if_neg hz] at h1 ⊢
    have e1 : s.2 * (f q % p) % p * pp p f q % p = 1 := by
      rw [← h1, Int.mul_emod, Int.emod_emod, ← Int.mul_emod, Int.mul_emod s.2 (_ % p), Int.emod_emod, ← Int.mul_emod]
      congr 1
      rw [Int.mul_assoc, Int.mul_comm (f q % p)]
    refine ⟨e1, fun i hi => ?_, fun i hi hin => ?_⟩
    · show (if i = q then s.1 q * s.2 % p else s.1 i) = _
      rw [if_neg (by omega)]; exact h2 i (by omega)
    · show InvOf p (f i) (if i = q then s.1 q * s.2 % p else s.1 i)
      by_cases hiq : i = q
      · subst hiq; rw [if_pos rfl]
        refine ⟨Int.emod_nonneg _ (by omega), Int.emod_lt_of_pos _ (by omega), .inl ?_⟩
        rw [h2 i (by omega), ← e1]
        rw [Int.mul_emod, Int.emod_emod, ← Int.mul_emod, Int.mul_emod (s.2 * (f i % p) % p), Int.emod_emod, ← Int.mul_emod]
        rw [Int.mul_emod (s.2 * (f i % p)), Int.mul_emod s.2, Int.emod_emod, ← Int.mul_emod s.2, ← Int.mul_emod]
        congr 1
        rw [Int.mul_comm (pp p f i), Int.mul_assoc, Int.mul_assoc, Int.mul_comm (pp p f i)]
      · rw [if_neg hiq]; exact h3 i (by omega) hin
theorem backSt_downs {p : Int} (hk : known p = true) (f : Nat → Int) (n : Nat) : ∀ k, k ≤ n → BackInv p f n (n - k) (backSt p f n (downs n k)) := by
  intro k
  induction k with
  | zero =>
    intro _
    refine ⟨?_, fun i _ => rfl, fun i h1 h2 => by omega⟩
    exact iv_mul hk (pp_lo (known_lo hk) f _).1 (pp_unit hk f _)
  | succ k ih =>
    intro h
    rw [downs, dif_pos (by omega), backSt_snoc]
    have hi := ih (by omega)
    rw [show n - k = (n - 1 - k) + 1 from by omega] at hi
    have := backInv_step hk f n (n - 1 - k) _ hi
    rw [show n - (k + 1) = n - 1 - k from by omega]
    exact this
theorem backSt_all {p : Int} (hk : known p = true) (f : Nat → Int) (n : Nat) : ∀ i, i < n → InvOf p (f i) ((backSt p f n (downs n n)).1 i) := by
  intro i hi
  have h := backSt_downs hk f n n (Nat.le_refl _)
  rw [Nat.sub_self] at h
  exact h.2.2 i (Nat.zero_le _) hi
end Go.Proofs.Ytdgnlagoagpejaa
