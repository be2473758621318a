/- The transform of twice the length out of two of half the length; the order of reversed bits. -/
import Derived.Test.YtnmbggdfcgbniaaDft
namespace Go.Proofs.Ytnmbggdfcgbniaa
namespace Po
variable {q : Nat} [NeZero q]

/-- The values of f's elements o, o + t, o + 2t, .. (m of them) at the powers of w. -/
def vl (f : Nat → Fin q) (w : Fin q) (m o t k : Nat) : Fin q := sm (fun i => f (o + i * t) * pwF w (i * k)) m
theorem vl_one (f : Nat → Fin q) (w : Fin q) (o t k : Nat) : vl f w 1 o t k = f o := by
  show 0 + f (o + 0 * t) * pwF w (0 * k) = f o
  rw [Nat.zero_mul, Nat.zero_mul, pwF_zero, Nat.add_zero]; grind
theorem vl_ev (f : Nat → Fin q) (w : Fin q) (m k : Nat) : vl f w m 0 1 k = ev f (pwF w k) m := by
  rw [ev_sm]
  refine sm_congr fun i _ => ?_
  rw [Nat.zero_add, Nat.mul_one, Nat.mul_comm i k, pwF_pow]
theorem sm_even_odd (g : Nat → Fin q) : ∀ h, sm g (2 * h) = sm (fun i => g (2 * i)) h + sm (fun i => g (2 * i + 1)) h
  | 0 => by show (0 : Fin q) = 0 + 0; grind
  | h + 1 => by
    rw [show 2 * (h + 1) = 2 * h + 1 + 1 by omega, sm, sm, sm_even_odd g h, sm, sm]; grind
theorem sm_halves (g : Nat → Fin q) (h : Nat) : ∀ n, sm g (h + n) = sm g h + sm (fun i => g (h + i)) n
  | 0 => by show sm g h = sm g h + 0; grind
  | n + 1 => by rw [← Nat.add_assoc, sm, sm_halves g h n, sm]; grind
/-- By the parity of the index: the first half of the values. -/
theorem vl_lo (f : Nat → Fin q) (w : Fin q) (h o t k : Nat) : vl f w (2 * h) o t k = vl f (pwF w 2) h o (2 * t) k + pwF w k * vl f (pwF w 2) h (o + t) (2 * t) k := by
  unfold vl
  rw [sm_even_odd, ← sm_mul]
  congr 1
  · refine sm_congr fun i _ => ?_
    rw [← pwF_pow, show 2 * i * t = i * (2 * t) by rw [Nat.mul_comm 2 i, Nat.mul_assoc], show 2 * i * k = 2 * (i * k) by rw [Nat.mul_assoc]]
  · refine sm_congr fun i _ => ?_
    rw [← pwF_pow, show o + (2 * i + 1) * t = o + t + i * (2 * t) by rw [Nat.add_mul, Nat.one_mul, Nat.mul_comm 2 i, Nat.mul_assoc]; omega, show (2 * i + 1) * k = k + 2 * (i * k) by rw [Nat.add_mul, Nat.one_mul, Nat.mul_assoc]; omega, pwF_add]
    grind
theorem pwF_half {w : Fin q} {h : Nat} (hw : pwF w h = 0 - 1) (k : Nat) : pwF w (k + h) = 0 - pwF w k := by rw [pwF_add, hw]; grind
theorem pwF_sq_half {w : Fin q} {h : Nat} (hw : pwF w h = 0 - 1) (i k : Nat) : pwF (pwF w 2) (i * (k + h)) = pwF (pwF w 2) (i * k) := by
  have h1 : pwF (pwF w 2) h = 1 := by
    rw [pwF_comm, hw]; show (1 * (0 - 1)) * (0 - 1) = (1 : Fin q); grind
  rw [Nat.mul_add, pwF_add, Nat.mul_comm i h, pwF_pow _ h i, h1, pwF_one]; grind
theorem vl_again {w : Fin q} {h : Nat} (hw : pwF w h = 0 - 1) (f : Nat → Fin q) (o t k : Nat) : vl f (pwF w 2) h o t (k + h) = vl f (pwF w 2) h o t k := by
  unfold vl
  exact sm_congr fun i _ => by rw [pwF_sq_half hw]
/-- The second half of the values. -/
theorem vl_hi {w : Fin q} {h : Nat} (hw : pwF w h = 0 - 1) (f : Nat → Fin q) (o t k : Nat) : vl f w (2 * h) o t (k + h) = vl f (pwF w 2) h o (2 * t) k - pwF w k * vl f (pwF w 2) h (o + t) (2 * t) k := by
  rw [vl_lo, vl_again hw, vl_again hw, pwF_half hw]; grind
/-- By the parity of the place: sums and differences of the halves. -/
theorem vl_even {w : Fin q} {h : Nat} (hw : pwF w h = 0 - 1) (f : Nat → Fin q) (k : Nat) : vl f w (2 * h) 0 1 (2 * k) = vl (fun i => f i + f (h + i)) (pwF w 2) h 0 1 k := by
  unfold vl
  rw [show 2 * h = h + h by omega, sm_halves, ← sm_add]
  refine sm_congr fun i _ => ?_
  have h1 : pwF w (2 * h) = 1 := by rw [Nat.mul_comm, pwF_pow, hw]; show (1 * (0 - 1)) * (0 - 1) = (1 : Fin q); grind
  have h2 : pwF w ((h + i) * (2 * k)) = pwF w (i * (2 * k)) := by
    rw [Nat.add_mul, pwF_add, show h * (2 * k) = 2 * h * k by rw [← Nat.mul_assoc, Nat.mul_comm h 2], pwF_pow, h1, pwF_one]; grind
  rw [Nat.zero_add, Nat.zero_add, Nat.mul_one, Nat.mul_one, h2, ← pwF_pow, show i * (2 * k) = 2 * (i * k) by rw [Nat.mul_left_comm]]
  grind
theorem vl_odd {w : Fin q} {h : Nat} (hw : pwF w h = 0 - 1) (f : Nat → Fin q) (k : Nat) : vl f w (2 * h) 0 1 (2 * k + 1) = vl (fun i => (f i - f (h + i)) * pwF w i) (pwF w 2) h 0 1 k := by
  unfold vl
  rw [show 2 * h = h + h by omega, sm_halves, ← sm_add]
  refine sm_congr fun i _ => ?_
  have h1 : pwF w (2 * h) = 1 := by rw [Nat.mul_comm, pwF_pow, hw]; show (1 * (0 - 1)) * (0 - 1) = (1 : Fin q); grind
  have h3 : ∀ j, pwF w (j * (2 * k + 1)) = pwF w j * pwF w (2 * (j * k)) := fun j => by
    rw [← pwF_add]; congr 1; rw [Nat.mul_add, Nat.mul_one, Nat.mul_left_comm]; omega
  have h2 : pwF w (2 * ((h + i) * k)) = pwF w (2 * (i * k)) := by
    rw [Nat.add_mul, Nat.mul_add, pwF_add, show 2 * (h * k) = 2 * h * k by rw [Nat.mul_assoc], pwF_pow _ (2 * h) k, h1, pwF_one]; grind
  rw [Nat.zero_add, Nat.zero_add, Nat.mul_one, Nat.mul_one, h3, h3, h2, ← pwF_pow, pwF_add w h i, hw]
  grind
end Po

/-- The b lowest bits in the other order. -/
def rev : Nat → Nat → Nat
  | 0, _ => 0
  | b + 1, j => 2 ^ b * (j % 2) + rev b (j / 2)
theorem rev_even (b j : Nat) : rev (b + 1) (2 * j) = rev b j := by
  rw [rev, show 2 * j % 2 = 0 by omega, show 2 * j / 2 = j by omega]; simp
theorem rev_odd (b j : Nat) : rev (b + 1) (2 * j + 1) = rev b j + 2 ^ b := by
  rw [rev, show (2 * j + 1) % 2 = 1 by omega, show (2 * j + 1) / 2 = j by omega]; omega
theorem rev_lt : ∀ b j, rev b j < 2 ^ b
  | 0, _ => by simp [rev]
  | b + 1, j => by
    have := rev_lt b (j / 2)
    rw [rev, Nat.pow_succ]
    rcases Nat.mod_two_eq_zero_or_one j with e | e <;> rw [e] <;> omega
theorem rev_top : ∀ b {j c : Nat}, j < 2 ^ b → c < 2 → rev (b + 1) (j + 2 ^ b * c) = 2 * rev b j + c
  | 0, j, c, hj, hc => by
    obtain rfl : j = 0 := by simp at hj; exact hj
    simp [rev]; omega
  | b + 1, j, c, hj, hc => by
    have hp : 2 ^ (b + 1) * c = 2 * (2 ^ b * c) := by rw [Nat.pow_succ, Nat.mul_comm (2 ^ b) 2, Nat.mul_assoc]
    have e1 : (j + 2 ^ (b + 1) * c) % 2 = j % 2 := by omega
    have e2 : (j + 2 ^ (b + 1) * c) / 2 = j / 2 + 2 ^ b * c := by omega
    rw [rev, e1, e2, rev_top b (by rw [Nat.pow_succ] at hj; omega) hc, rev]
    rw [Nat.pow_succ, Nat.mul_comm (2 ^ b) 2, Nat.mul_assoc]
    omega
/-- Twice is nothing. -/
theorem rev_rev : ∀ b {j : Nat}, j < 2 ^ b → rev b (rev b j) = j
  | 0, j, hj => by
    obtain rfl : j = 0 := by simp at hj; exact hj
    rfl
  | b + 1, j, hj => by
    have h1 : rev (b + 1) j = rev b (j / 2) + 2 ^ b * (j % 2) := by rw [rev]; omega
    rw [h1, rev_top b (rev_lt b _) (by omega), rev_rev b (by rw [Nat.pow_succ] at hj; omega)]
    omega
end Go.Proofs.Ytnmbggdfcgbniaa
