/- Pairs of numbers a + b X with X X = g: the sums behind the quadratic extension. Plain numbers, no program. -/
import Derived.Test.YtkpgejaamhkdnaaMath
namespace Go.Proofs.Ytkpgejaamhkdnaa.Ext

abbrev E := Int × Int
def mE (g : Int) (a b : E) : E := (a.1 * b.1 + g * (a.2 * b.2), a.1 * b.2 + a.2 * b.1)
def aE (a b : E) : E := (a.1 + b.1, a.2 + b.2)
def sE (k : Int) (a : E) : E := (k * a.1, k * a.2)
def cj (a : E) : E := (a.1, - a.2)
def nE (g : Int) (a : E) : Int := a.1 * a.1 - g * (a.2 * a.2)
def pE (g : Int) (a : E) : Nat → E
  | 0 => (1, 0)
  | n + 1 => mE g (pE g a n) a

theorem mE_comm (g : Int) (a b : E) : mE g a b = mE g b a := by
  apply Prod.ext <;> simp only [mE] <;> grind
theorem mE_assoc (g : Int) (a b c : E) : mE g (mE g a b) c = mE g a (mE g b c) := by
  apply Prod.ext <;> simp only [mE] <;> grind
theorem mE_add (g : Int) (a b c : E) : mE g a (aE b c) = aE (mE g a b) (mE g a c) := by
  apply Prod.ext <;> simp only [mE, aE] <;> grind
theorem mE_one (g : Int) (a : E) : mE g a (1, 0) = a := by
  apply Prod.ext <;> simp [mE]
theorem mE_scale (g k : Int) (a b : E) : mE g (sE k a) b = sE k (mE g a b) := by
  apply Prod.ext <;> simp only [mE, sE] <;> grind
theorem aE_comm (a b : E) : aE a b = aE b a := by
  apply Prod.ext <;> simp only [aE] <;> grind
theorem aE_assoc (a b c : E) : aE (aE a b) c = aE a (aE b c) := by
  apply Prod.ext <;> simp only [aE] <;> grind
theorem mE_cj (g : Int) (a : E) : mE g a (cj a) = (nE g a, 0) := by
  apply Prod.ext <;> simp only [mE, cj, nE] <;> grind
theorem nE_mul (g : Int) (a b : E) : nE g (mE g a b) = nE g a * nE g b := by
  simp only [nE, mE]; grind
theorem pE_add (g : Int) (a : E) (m n : Nat) : pE g a (m + n) = mE g (pE g a m) (pE g a n) := by
  induction n with
  | zero => rw [Nat.add_zero, pE, mE_one]
  | succ n ih => rw [← Nat.add_assoc, pE, ih, mE_assoc, ← pE]
theorem pE_scale (g k : Int) (a : E) (n : Nat) : pE g (sE k a) n = sE (k ^ n) (pE g a n) := by
  induction n with
  | zero => simp [pE, sE]
  | succ n ih =>
    rw [pE, ih, mE_scale, mE_comm, mE_scale, mE_comm, pE]
    apply Prod.ext <;> simp only [sE] <;> grind

/-- Alike modulo p. -/
def Al (p x y : Int) : Prop := ∃ k, x = y + p * k
theorem Al.emod {p x y : Int} (h : Al p x y) : x % p = y % p := by
  obtain ⟨k, rfl⟩ := h; exact Int.add_mul_emod_self_left _ _ _
theorem Al.of_emod {p x y : Int} (h : x % p = y % p) : Al p x y :=
  ⟨x / p - y / p, by have h1 := Int.emod_add_mul_ediv x p; have h2 := Int.emod_add_mul_ediv y p; grind⟩
theorem Al.refl (p x : Int) : Al p x x := ⟨0, by grind⟩
theorem Al.symm {p x y : Int} (h : Al p x y) : Al p y x := by
  obtain ⟨k, rfl⟩ := h; exact ⟨-k, by grind⟩
theorem Al.trans {p x y z : Int} (h : Al p x y) (h' : Al p y z) : Al p x z := by
  obtain ⟨k, rfl⟩ := h; obtain ⟨l, rfl⟩ := h'; exact ⟨k + l, by grind⟩
theorem Al.add {p x y x' y' : Int} (h : Al p x y) (h' : Al p x' y') : Al p (x + x') (y + y') := by
  obtain ⟨k, rfl⟩ := h; obtain ⟨l, rfl⟩ := h'; exact ⟨k + l, by grind⟩
theorem Al.sub {p x y x' y' : Int} (h : Al p x y) (h' : Al p x' y') : Al p (x - x') (y - y') := by
  obtain ⟨k, rfl⟩ := h; obtain ⟨l, rfl⟩ := h'; exact ⟨k - l, by grind⟩
theorem Al.mul {p x y x' y' : Int} (h : Al p x y) (h' : Al p x' y') : Al p (x * x') (y * y') := by
  obtain ⟨k, rfl⟩ := h; obtain ⟨l, rfl⟩ := h'; exact ⟨k * y' + l * y + p * k * l, by grind⟩
theorem Al.pow {p x y : Int} (h : Al p x y) (n : Nat) : Al p (x ^ n) (y ^ n) := by
  induction n with
  | zero => simpa using Al.refl p 1
  | succ n ih => rw [Int.pow_succ, Int.pow_succ]; exact ih.mul h
theorem Al.self (p x : Int) : Al p (x % p) x := Al.of_emod (Int.emod_emod x p)
theorem Al.neg {p x y : Int} (h : Al p x y) : Al p (-x) (-y) := by
  obtain ⟨k, rfl⟩ := h; exact ⟨-k, by grind⟩

def cE (p : Int) (a b : E) : Prop := Al p a.1 b.1 ∧ Al p a.2 b.2
theorem cE.refl (p : Int) (a : E) : cE p a a := ⟨Al.refl _ _, Al.refl _ _⟩
theorem cE.symm {p : Int} {a b : E} (h : cE p a b) : cE p b a := ⟨h.1.symm, h.2.symm⟩
theorem cE.trans {p : Int} {a b c : E} (h : cE p a b) (h' : cE p b c) : cE p a c := ⟨h.1.trans h'.1, h.2.trans h'.2⟩
theorem cE.mul {p g : Int} {a b a' b' : E} (h : cE p a b) (h' : cE p a' b') : cE p (mE g a a') (mE g b b') :=
  ⟨(h.1.mul h'.1).add ((Al.refl _ g).mul (h.2.mul h'.2)), (h.1.mul h'.2).add (h.2.mul h'.1)⟩
theorem cE.add {p : Int} {a b a' b' : E} (h : cE p a b) (h' : cE p a' b') : cE p (aE a a') (aE b b') := ⟨h.1.add h'.1, h.2.add h'.2⟩
theorem cE.scale {p k l : Int} {a b : E} (hk : Al p k l) (h : cE p a b) : cE p (sE k a) (sE l b) := ⟨hk.mul h.1, hk.mul h.2⟩
theorem cE.pow {p g : Int} {a b : E} (h : cE p a b) (n : Nat) : cE p (pE g a n) (pE g b n) := by
  induction n with
  | zero => exact cE.refl _ _
  | succ n ih => exact ih.mul h

/-! ### Sums of powers -/
def ch : Nat → Nat → Nat
  | _, 0 => 1
  | 0, _ + 1 => 0
  | n + 1, k + 1 => ch n k + ch n (k + 1)
theorem ch_zero : ∀ (n k : Nat), n < k → ch n k = 0
  | _, 0, h => absurd h (Nat.not_lt_zero _)
  | 0, _ + 1, _ => rfl
  | n + 1, k + 1, h => by rw [ch, ch_zero n k (by omega), ch_zero n (k + 1) (by omega)]
theorem ch_full : ∀ n, ch n n = 1
  | 0 => rfl
  | n + 1 => by rw [ch, ch_full n, ch_zero n (n + 1) (by omega)]
theorem ch_zero_right (n : Nat) : ch n 0 = 1 := by cases n <;> rfl
theorem ch_step : ∀ n k, (k + 1) * ch (n + 1) (k + 1) = (n + 1) * ch n k
  | 0, 0 => rfl
  | 0, k + 1 => by simp [ch]
  | n + 1, 0 => by
    have h := ch_step n 0
    have e : ch (n + 2) 1 = ch (n + 1) 0 + ch (n + 1) 1 := rfl
    have z := ch_zero_right (n + 1)
    have z' := ch_zero_right n
    rw [z'] at h
    rw [z, Nat.zero_add, e, z]
    simp only [Nat.zero_add] at h
    omega
  | n + 1, k + 1 => by
    have h1 := ch_step n k
    have h2 := ch_step n (k + 1)
    have e : ch (n + 2) (k + 2) = ch (n + 1) (k + 1) + ch (n + 1) (k + 2) := rfl
    have e' : ch (n + 1) (k + 1) = ch n k + ch n (k + 1) := rfl
    rw [e]
    grind

/-- The first m terms of (1 + z) to the n. -/
def tE (g : Int) (z : E) (n : Nat) : Nat → E
  | 0 => (0, 0)
  | k + 1 => aE (tE g z n k) (sE (ch n k) (pE g z k))
theorem tE_step (g : Int) (z : E) (n : Nat) : ∀ m, tE g z (n + 1) (m + 1) = aE (tE g z n (m + 1)) (mE g (tE g z n m) z)
  | 0 => by
    simp only [tE, ch_zero_right, pE]
    apply Prod.ext <;> simp [aE, sE, mE]
  | m + 1 => by
    rw [tE, tE_step g z n m, tE.eq_def g z n (m + 2)]
    simp only
    have e : (ch (n + 1) (m + 1) : Int) = ch n m + ch n (m + 1) := by simp [ch]
    rw [e, tE.eq_def g z n (m + 1)]
    simp only [pE]
    apply Prod.ext <;> simp only [aE, sE, mE] <;> grind
theorem tE_pow (g : Int) (z : E) : ∀ n, pE g (aE (1, 0) z) n = tE g z n (n + 1)
  | 0 => by simp [pE, tE, aE, sE, ch]
  | n + 1 => by
    rw [pE, tE_pow g z n, tE_step, tE.eq_def g z n (n + 2)]
    simp only [ch_zero n (n + 1) (by omega)]
    apply Prod.ext <;> simp only [aE, sE, mE] <;> grind

/-! ### The power with the exponent p -/
theorem euclid {p k m : Nat} (hp : 1 < p) (hf : Fm.Fermat p) (hk : k % p ≠ 0) (h : p ∣ k * m) : p ∣ m := by
  have h1 := hf k hk
  obtain ⟨q, rfl⟩ : ∃ q, p = q + 2 := ⟨p - 2, by omega⟩
  rw [show q + 2 - 1 = q + 1 from rfl] at h1
  have h2 : k ^ (q + 1) * m % (q + 2) = m % (q + 2) := by rw [Nat.mul_mod, h1, Nat.one_mul, Nat.mod_mod]
  have h3 : (q + 2) ∣ k ^ (q + 1) * m := by
    rw [Nat.pow_succ, Nat.mul_assoc]; exact Nat.dvd_trans h (Nat.dvd_mul_left _ _)
  rw [Nat.mod_eq_zero_of_dvd h3] at h2
  exact Nat.dvd_of_mod_eq_zero h2.symm
theorem ch_div {p : Nat} (hp : 1 < p) (hf : Fm.Fermat p) {k : Nat} (h0 : 0 < k) (hk : k < p) : p ∣ ch p k := by
  obtain ⟨n, rfl⟩ : ∃ n, p = n + 1 := ⟨p - 1, by omega⟩
  obtain ⟨j, rfl⟩ : ∃ j, k = j + 1 := ⟨k - 1, by omega⟩
  exact euclid hp hf (by rw [Nat.mod_eq_of_lt hk]; omega) ⟨_, ch_step n j⟩
theorem tE_low {p : Nat} (hp : 1 < p) (hf : Fm.Fermat p) (g : Int) (z : E) : ∀ m, m < p → cE p (tE g z p (m + 1)) (1, 0)
  | 0, _ => by
    simp only [tE, ch_zero_right, pE]
    exact ⟨by simpa [aE, sE] using Al.refl (p : Int) 1, by simpa [aE, sE] using Al.refl (p : Int) 0⟩
  | m + 1, h => by
    have ih := tE_low hp hf g z m (by omega)
    obtain ⟨q, hq⟩ := ch_div hp hf (Nat.succ_pos m) h
    rw [tE.eq_def g z p (m + 2)]
    simp only
    obtain ⟨⟨k, h1⟩, ⟨l, h2⟩⟩ := ih
    have e : (ch p (m + 1) : Int) = p * q := by rw [hq]; simp
    refine ⟨⟨k + q * (pE g z (m + 1)).1, ?_⟩, ⟨l + q * (pE g z (m + 1)).2, ?_⟩⟩
    · simp only [aE, sE, e]; grind
    · simp only [aE, sE, e]; grind
theorem dream {p : Nat} (hp : 1 < p) (hf : Fm.Fermat p) (g : Int) (z : E) : cE p (pE g (aE (1, 0) z) p) (aE (1, 0) (pE g z p)) := by
  have h := tE_low hp hf g z (p - 1) (by omega)
  rw [show p - 1 + 1 = p from by omega] at h
  rw [tE_pow, tE.eq_def g z p (p + 1)]
  simp only [ch_full]
  refine cE.add h ?_
  exact ⟨by simpa [sE] using Al.refl _ _, by simpa [sE] using Al.refl _ _⟩
theorem pE_X (g : Int) : ∀ m, pE g (0, 1) (2 * m) = (g ^ m, 0)
  | 0 => by simp [pE]
  | m + 1 => by
    rw [Nat.mul_succ, pE_add, pE_X g m]
    apply Prod.ext <;> simp [pE, mE] <;> grind
theorem pE_plain (g x : Int) (n : Nat) : pE g (x, 0) n = (x ^ n, 0) := by
  induction n with
  | zero => simp [pE]
  | succ n ih => rw [pE, ih]; apply Prod.ext <;> simp [mE] <;> grind

/-- What is asked of a prime and its generator. -/
structure Good (p : Nat) (g : Int) : Prop where
  one : 1 < p
  fermat : Fm.Fermat p
  odd : p % 2 = 1
  half : Al p (g ^ ((p - 1) / 2)) (-1)

theorem Good.X {p : Nat} {g : Int} (h : Good p g) : cE p (pE g (0, 1) p) (0, -1) := by
  have ho := h.odd
  have e : pE g (0, 1) p = mE g (pE g (0, 1) (2 * ((p - 1) / 2))) (0, 1) := by
    have : p = 2 * ((p - 1) / 2) + 1 := by have := h.one; omega
    conv => lhs; rw [this]
    rfl
  rw [e, pE_X]
  refine ⟨?_, ?_⟩
  · simpa [mE] using Al.refl (p : Int) 0
  · simpa [mE] using h.half
theorem Good.near {p : Nat} {g : Int} (h : Good p g) : ∀ k : Nat, cE p (pE g ((k : Int), 1) p) ((k : Int), -1)
  | 0 => by simpa using h.X
  | k + 1 => by
    have e : (((k + 1 : Nat) : Int), (1 : Int)) = aE (1, 0) ((k : Int), 1) := by apply Prod.ext <;> simp [aE] <;> grind
    rw [e]
    refine (dream h.one h.fermat g _).trans ?_
    refine (cE.add (cE.refl _ _) (h.near k)).trans ?_
    have e2 : aE (1, 0) ((k : Int), -1) = (((k + 1 : Nat) : Int), -1) := by apply Prod.ext <;> simp [aE] <;> grind
    rw [e2]; exact cE.refl _ _
theorem Good.pos {p : Nat} {g : Int} (h : Good p g) : (0 : Int) < p := by have := h.one; omega
/-- A number that is alike. -/
theorem Good.nat {p : Nat} {g : Int} (h : Good p g) (x : Int) : ∃ n : Nat, Al p x n :=
  ⟨(x % p).toNat, by rw [Int.toNat_of_nonneg (Int.emod_nonneg _ (by have := h.pos; omega))]; exact (Al.self _ _).symm⟩
theorem Good.inv {p : Nat} {g : Int} (h : Good p g) {x : Int} (hx : ¬ Al p x 0) : Al p (x ^ (p - 1)) 1 := by
  obtain ⟨n, hn⟩ := h.nat x
  have hn0 : n % p ≠ 0 := by
    intro h0
    refine hx (hn.trans (Al.of_emod ?_))
    rw [Int.zero_emod]; exact_mod_cast h0
  have := h.fermat n hn0
  refine (hn.pow (p - 1)).trans (Al.of_emod ?_)
  have h1 : (1 : Int) % p = 1 := Int.emod_eq_of_lt (by omega) (by have := h.one; omega)
  rw [h1]; exact_mod_cast this
theorem Good.pow {p : Nat} {g : Int} (h : Good p g) (x : Int) : Al p (x ^ p) x := by
  have hp : p = p - 1 + 1 := by have := h.one; omega
  by_cases hx : Al p x 0
  · refine (hx.pow p).trans ?_
    rw [Int.zero_pow (by omega)]; exact hx.symm
  · have e : x ^ p = x ^ (p - 1) * x := by conv => lhs; rw [hp, Int.pow_succ]
    rw [e]
    simpa using (h.inv hx).mul (Al.refl _ x)
/-- The power with the exponent p is the conjugate. -/
theorem Good.frobenius {p : Nat} {g : Int} (h : Good p g) (a : E) : cE p (pE g a p) (cj a) := by
  obtain ⟨x, y⟩ := a
  by_cases hy : Al p y 0
  · have h1 : cE p (x, y) (x, 0) := ⟨Al.refl _ _, hy⟩
    refine (h1.pow p).trans ?_
    rw [pE_plain]
    refine ⟨h.pow x, ?_⟩
    simpa [cj] using hy.symm.neg
  · have hp : p - 1 = p - 2 + 1 := by have := h.one; omega
    have hi := h.inv hy
    rw [hp, Int.pow_succ] at hi
    obtain ⟨k, hk⟩ := h.nat (x * y ^ (p - 2))
    have hyk : Al p (y * k) x := by
      refine ((Al.refl _ y).mul hk.symm).trans ?_
      have := (Al.refl (p : Int) x).mul hi
      rw [Int.mul_one] at this
      refine Al.trans ?_ this
      rw [show y * (x * y ^ (p - 2)) = x * (y ^ (p - 2) * y) from by grind]
      exact Al.refl _ _
    have h1 : cE p (x, y) (sE y ((k : Int), 1)) := ⟨hyk.symm, by simpa [sE] using Al.refl (p : Int) y⟩
    refine (h1.pow p).trans ?_
    rw [pE_scale]
    refine (cE.scale (h.pow y) (h.near k)).trans ⟨hyk, ?_⟩
    simpa [sE, cj] using Al.refl (p : Int) (-y)
/-- The norm is zero only where both numbers are. -/
theorem Good.norm {p : Nat} {g : Int} (h : Good p g) {a : E} (hn : Al p (nE g a) 0) : cE p a (0, 0) := by
  obtain ⟨x, y⟩ := a
  have hpos : 2 * ((p - 1) / 2) = p - 1 := by have := h.odd; omega
  have h0 : (p - 1) / 2 ≠ 0 := by have := h.one; have := h.odd; omega
  have e : Al p (x * x) (g * (y * y)) := by
    obtain ⟨k, hk⟩ := hn
    exact ⟨k, by simp only [nE] at hk; grind⟩
  have sq : ∀ z : Int, (z * z) ^ ((p - 1) / 2) = z ^ (p - 1) := fun z => by
    conv => rhs; rw [← hpos, Int.pow_mul]
    congr 1; grind
  have not1 : ∀ {z : Int}, Al p z 0 → ¬ Al p z 1 := fun hz hz1 => by
    have := hz.symm.trans hz1
    have h2 := this.emod
    rw [Int.zero_emod, Int.emod_eq_of_lt (by omega) (by have := h.one; omega)] at h2
    omega
  have hy : Al p y 0 := by
    apply Classical.byContradiction
    intro hy
    have h1 := e.pow ((p - 1) / 2)
    rw [sq, Int.mul_pow, sq] at h1
    have h2 := h1.trans (h.half.mul (h.inv hy))
    rw [Int.mul_one] at h2
    by_cases hx : Al p x 0
    · have h3 := hx.pow (p - 1)
      rw [Int.zero_pow (by omega)] at h3
      have h4 := (h3.symm.trans h2).neg
      simp at h4
      exact not1 (Al.refl _ 0) h4
    · have h3 := (h.inv hx).symm.trans h2
      have h4 := h3.emod
      rcases h3 with ⟨k, hk⟩
      have hdiv : (p : Int) ∣ 2 := ⟨k, by omega⟩
      have h5 := Int.le_of_dvd (by omega) hdiv
      have h6 := h.one
      have h7 := h.odd
      omega
  refine ⟨?_, hy⟩
  apply Classical.byContradiction
  intro hx
  have h1 := e.trans ((Al.refl _ g).mul (hy.mul hy))
  simp at h1
  have h2 := h1.pow ((p - 1) / 2)
  rw [sq, Int.zero_pow h0] at h2
  exact not1 h2 (h.inv hx)
end Go.Proofs.Ytkpgejaamhkdnaa.Ext
