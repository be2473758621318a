/- Pairs of numbers a + b X with X X = g: the sums behind the quadratic extension. Plain numbers, no program. The seven primes and their generators are good: what stands in Ext holds of them. The functions of the chapter on the extension over whole numbers, and the laws that its statements name. The walks of package extension and of its reference: what each returns; the world has at most new blocks. The walks of the norm and of the inverse. -/
import Derived.Test.YtdcdaclkeocfpaaMath
import Derived.Test.YtdcdaclkeocfpaaLawB
import Derived.Test.YtdcdaclkeocfpaaU64
import Derived.Deep.Cut
namespace Go.Proofs.Ytdcdaclkeocfpaa.Ext

abbrev E := Int × Int
def mE (g : Int) (a b : E) : E := (a.1 * b.1 + g * (a.2 * b.2), a.1 * b.2 + a.2 * b.1)
def aE (a b : E) : E := (a.1 + b.1, a.2 + b.2)
def sE (k : Int) (a : E) : E := (k * a.1, k * a.2)
def cj (a : E) : E := (a.1, - a.2)
def nE (g : Int) (a : E) : Int := a.1 * a.1 - g * (a.2 * a.2)
def pE (g : Int) (a : E) : Nat → E
  | 0 => (1, 0)
  | n + 1 => mE g (pE g a n) a

theorem mE_comm (g : Int) (a b : E) : mE g a b = mE g b a := by
  apply Prod.ext <;> simp only [mE] <;> grind
theorem mE_assoc (g : Int) (a b c : E) : mE g (mE g a b) c = mE g a (mE g b c) := by
  apply Prod.ext <;> simp only [mE] <;> grind
theorem mE_add (g : Int) (a b c : E) : mE g a (aE b c) = aE (mE g a b) (mE g a c) := by
  apply Prod.ext <;> simp only [mE, aE] <;> grind
theorem mE_one (g : Int) (a : E) : mE g a (1, 0) = a := by
  apply Prod.ext <;> simp [mE]
theorem mE_scale (g k : Int) (a b : E) : mE g (sE k a) b = sE k (mE g a b) := by
  apply Prod.ext <;> simp only [mE, sE] <;> grind
theorem aE_comm (a b : E) : aE a b = aE b a := by
  apply Prod.ext <;> simp only [aE] <;> grind
theorem aE_assoc (a b c : E) : aE (aE a b) c = aE a (aE b c) := by
  apply Prod.ext <;> simp only [aE] <;> grind
theorem mE_cj (g : Int) (a : E) : mE g a (cj a) = (nE g a, 0) := by
  apply Prod.ext <;> simp only [mE, cj, nE] <;> grind
theorem nE_mul (g : Int) (a b : E) : nE g (mE g a b) = nE g a * nE g b := by
  simp only [nE, mE]; grind
theorem pE_add (g : Int) (a : E) (m n : Nat) : pE g a (m + n) = mE g (pE g a m) (pE g a n) := by
  induction n with
  | zero => rw [Nat.add_zero, pE, mE_one]
  | succ n ih => rw [← Nat.add_assoc, pE, ih, mE_assoc, ← pE]
theorem pE_scale (g k : Int) (a : E) (n : Nat) : pE g (sE k a) n = sE (k ^ n) (pE g a n) := by
  induction n with
  | zero => simp [pE, sE]
  | succ n ih =>
    rw [pE, ih, mE_scale, mE_comm, mE_scale, mE_comm, pE]
    apply Prod.ext <;> simp only [sE] <;> grind

/-- Alike modulo p. -/
def Al (p x y : Int) : Prop := ∃ k, x = y + p * k
theorem Al.emod {p x y : Int} (h : Al p x y) : x % p = y % p := by
  obtain ⟨k, rfl⟩ := h; exact Int.add_mul_emod_self_left _ _ _
theorem Al.of_emod {p x y : Int} (h : x % p = y % p) : Al p x y :=
  ⟨x / p - y / p, by have h1 := Int.emod_add_mul_ediv x p; have h2 := Int.emod_add_mul_ediv y p; grind⟩
theorem Al.refl (p x : Int) : Al p x x := ⟨0, by grind⟩
theorem Al.symm {p x y : Int} (h : Al p x y) : Al p y x := by
  obtain ⟨k, rfl⟩ := h; exact ⟨-k, by grind⟩
theorem Al.trans {p x y z : Int} (h : Al p x y) (h' : Al p y z) : Al p x z := by
  obtain ⟨k, rfl⟩ := h; obtain ⟨l, rfl⟩ := h'; exact ⟨k + l, by grind⟩
theorem Al.add {p x y x' y' : Int} (h : Al p x y) (h' : Al p x' y') : Al p (x + x') (y + y') := by
  obtain ⟨k, rfl⟩ := h; obtain ⟨l, rfl⟩ := h'; exact ⟨k + l, by grind⟩
theorem Al.sub {p x y x' y' : Int} (h : Al p x y) (h' : Al p x' y') : Al p (x - x') (y - y') := by
  obtain ⟨k, rfl⟩ := h; obtain ⟨l, rfl⟩ := h'; exact ⟨k - l, by grind⟩
theorem Al.mul {p x y x' y' : Int} (h : Al p x y) (h' : Al p x' y') : Al p (x * x') (y * y') := by
  obtain ⟨k, rfl⟩ := h; obtain ⟨l, rfl⟩ := h'; exact ⟨k * y' + l * y + p * k * l, by grind⟩
theorem Al.pow {p x y : Int} (h : Al p x y) (n : Nat) : Al p (x ^ n) (y ^ n) := by
  induction n with
  | zero => simpa using Al.refl p 1
  | succ n ih => rw [Int.pow_succ, Int.pow_succ]; exact ih.mul h
theorem Al.self (p x : Int) : Al p (x % p) x := Al.of_emod (Int.emod_emod x p)
theorem Al.neg {p x y : Int} (h : Al p x y) : Al p (-x) (-y) := by
  obtain ⟨k, rfl⟩ := h; exact ⟨-k, by grind⟩

def cE (p : Int) (a b : E) : Prop := Al p a.1 b.1 ∧ Al p a.2 b.2
theorem cE.refl (p : Int) (a : E) : cE p a a := ⟨Al.refl _ _, Al.refl _ _⟩
theorem cE.symm {p : Int} {a b : E} (h : cE p a b) : cE p b a := ⟨h.1.symm, h.2.symm⟩
theorem cE.trans {p : Int} {a b c : E} (h : cE p a b) (h' : cE p b c) : cE p a c := ⟨h.1.trans h'.1, h.2.trans h'.2⟩
theorem cE.mul {p g : Int} {a b a' b' : E} (h : cE p a b) (h' : cE p a' b') : cE p (mE g a a') (mE g b b') :=
  ⟨(h.1.mul h'.1).add ((Al.refl _ g).mul (h.2.mul h'.2)), (h.1.mul h'.2).add (h.2.mul h'.1)⟩
theorem cE.add {p : Int} {a b a' b' : E} (h : cE p a b) (h' : cE p a' b') : cE p (aE a a') (aE b b') := ⟨h.1.add h'.1, h.2.add h'.2⟩
theorem cE.scale {p k l : Int} {a b : E} (hk : Al p k l) (h : cE p a b) : cE p (sE k a) (sE l b) := ⟨hk.mul h.1, hk.mul h.2⟩
theorem cE.pow {p g : Int} {a b : E} (h : cE p a b) (n : Nat) : cE p (pE g a n) (pE g b n) := by
  induction n with
  | zero => exact cE.refl _ _
  | succ n ih => exact ih.mul h

/-! ### Sums of powers -/
def ch : Nat → Nat → Nat
  | _, 0 => 1
  | 0, _ + 1 => 0
  | n + 1, k + 1 => ch n k + ch n (k + 1)
theorem ch_zero : ∀ (n k : Nat), n < k → ch n k = 0
  | _, 0, h => absurd h (Nat.not_lt_zero _)
  | 0, _ + 1, _ => rfl
  | n + 1, k + 1, h => by rw [ch, ch_zero n k (by omega), ch_zero n (k + 1) (by omega)]
theorem ch_full : ∀ n, ch n n = 1
  | 0 => rfl
  | n + 1 => by rw [ch, ch_full n, ch_zero n (n + 1) (by omega)]
theorem ch_zero_right (n : Nat) : ch n 0 = 1 := by cases n <;> rfl
theorem ch_step : ∀ n k, (k + 1) * ch (n + 1) (k + 1) = (n + 1) * ch n k
  | 0, 0 => rfl
  | 0, k + 1 => by simp [ch]
  | n + 1, 0 => by
    have h := ch_step n 0
    have e : ch (n + 2) 1 = ch (n + 1) 0 + ch (n + 1) 1 := rfl
    have z := ch_zero_right (n + 1)
    have z' := ch_zero_right n
    rw [z'] at h
    rw [z, Nat.zero_add, e, z]
    simp only [Nat.zero_add] at h
    omega
  | n + 1, k + 1 => by
    have h1 := ch_step n k
    have h2 := ch_step n (k + 1)
    have e : ch (n + 2) (k + 2) = ch (n + 1) (k + 1) + ch (n + 1) (k + 2) := rfl
    have e' : ch (n + 1) (k + 1) = ch n k + ch n (k + 1) := rfl
    rw [e]
    grind

/-- The first m terms of (1 + z) to the n. -/
def tE (g : Int) (z : E) (n : Nat) : Nat → E
  | 0 => (0, 0)
  | k + 1 => aE (tE g z n k) (sE (ch n k) (pE g z k))
theorem tE_step (g : Int) (z : E) (n : Nat) : ∀ m, tE g z (n + 1) (m + 1) = aE (tE g z n (m + 1)) (mE g (tE g z n m) z)
  | 0 => by
    simp only [tE, ch_zero_right, pE]
    apply Prod.ext <;> simp [aE, sE, mE]
  | m + 1 => by
    rw [tE, tE_step g z n m, tE.eq_def g z n (m + 2)]
    simp only
    have e : (ch (n + 1) (m + 1) : Int) = ch n m + ch n (m + 1) := by simp [ch]
    rw [e, tE.eq_def g z n (m + 1)]
    simp only [pE]
    apply Prod.ext <;> simp only [aE, sE, mE] <;> grind
theorem tE_pow (g : Int) (z : E) : ∀ n, pE g (aE (1, 0) z) n = tE g z n (n + 1)
  | 0 => by simp [pE, tE, aE, sE, ch]
  | n + 1 => by
    rw [pE, tE_pow g z n, tE_step, tE.eq_def g z n (n + 2)]
    simp only [ch_zero n (n + 1) (by omega)]
    apply Prod.ext <;> simp only [aE, sE, mE] <;> grind

/-! ### The power with the exponent p -/
theorem euclid {p k m : Nat} (hp : 1 < p) (hf : Fm.Fermat p) (hk : k % p ≠ 0) (h : p ∣ k * m) : p ∣ m := by
  have h1 := hf k hk
  obtain ⟨q, rfl⟩ : ∃ q, p = q + 2 := ⟨p - 2, by omega⟩
  rw [show q + 2 - 1 = q + 1 from rfl] at h1
  have h2 : k ^ (q + 1) * m % (q + 2) = m % (q + 2) := by rw [Nat.mul_mod, h1, Nat.one_mul, Nat.mod_mod]
  have h3 : (q + 2) ∣ k ^ (q + 1) * m := by
    rw [Nat.pow_succ, Nat.mul_assoc]; exact Nat.dvd_trans h (Nat.dvd_mul_left _ _)
  rw [Nat.mod_eq_zero_of_dvd h3] at h2
  exact Nat.dvd_of_mod_eq_zero h2.symm
theorem ch_div {p : Nat} (hp : 1 < p) (hf : Fm.Fermat p) {k : Nat} (h0 : 0 < k) (hk : k < p) : p ∣ ch p k := by
  obtain ⟨n, rfl⟩ : ∃ n, p = n + 1 := ⟨p - 1, by omega⟩
  obtain ⟨j, rfl⟩ : ∃ j, k = j + 1 := ⟨k - 1, by omega⟩
  exact euclid hp hf (by rw [Nat.mod_eq_of_lt hk]; omega) ⟨_, ch_step n j⟩
theorem tE_low {p : Nat} (hp : 1 < p) (hf : Fm.Fermat p) (g : Int) (z : E) : ∀ m, m < p → cE p (tE g z p (m + 1)) (1, 0)
  | 0, _ => by
    simp only [tE, ch_zero_right, pE]
    exact ⟨by simpa [aE, sE] using Al.refl (p : Int) 1, by simpa [aE, sE] using Al.refl (p : Int) 0⟩
  | m + 1, h => by
    have ih := tE_low hp hf g z m (by omega)
    obtain ⟨q, hq⟩ := ch_div hp hf (Nat.succ_pos m) h
    rw [tE.eq_def g z p (m + 2)]
    simp only
    obtain ⟨⟨k, h1⟩, ⟨l, h2⟩⟩ := ih
    have e : (ch p (m + 1) : Int) = p * q := by rw [hq]; simp
    refine ⟨⟨k + q * (pE g z (m + 1)).1, ?_⟩, ⟨l + q * (pE g z (m + 1)).2, ?_⟩⟩
    · simp only [aE, sE, e]; grind
    · simp only [aE, sE, e]; grind
theorem dream {p : Nat} (hp : 1 < p) (hf : Fm.Fermat p) (g : Int) (z : E) : cE p (pE g (aE (1, 0) z) p) (aE (1, 0) (pE g z p)) := by
  have h := tE_low hp hf g z (p - 1) (by omega)
  rw [show p - 1 + 1 = p from by omega] at h
  rw [tE_pow, tE.eq_def g z p (p + 1)]
  simp only [ch_full]
  refine cE.add h ?_
  exact ⟨by simpa [sE] using Al.refl _ _, by simpa [sE] using Al.refl _ _⟩
theorem pE_X (g : Int) : ∀ m, pE g (0, 1) (2 * m) = (g ^ m, 0)
  | 0 => by simp [pE]
  | m + 1 => by
    rw [Nat.mul_succ, pE_add, pE_X g m]
    apply Prod.ext <;> simp [pE, mE] <;> grind
theorem pE_plain (g x : Int) (n : Nat) : pE g (x, 0) n = (x ^ n, 0) := by
  induction n with
  | zero => simp [pE]
  | succ n ih => rw [pE, ih]; apply Prod.ext <;> simp [mE] <;> grind

/-- What is asked of a prime and its generator. -/
structure Good (p : Nat) (g : Int) : Prop where
  one : 1 < p
  fermat : Fm.Fermat p
  odd : p % 2 = 1
  half : Al p (g ^ ((p - 1) / 2)) (-1)

theorem Good.X {p : Nat} {g : Int} (h : Good p g) : cE p (pE g (0, 1) p) (0, -1) := by
  have ho := h.odd
  have e : pE g (0, 1) p = mE g (pE g (0, 1) (2 * ((p - 1) / 2))) (0, 1) := by
    have : p = 2 * ((p - 1) / 2) + 1 := by have := h.one; omega
    conv => lhs; rw [this]
    rfl
  rw [e, pE_X]
  refine ⟨?_, ?_⟩
  · simpa [mE] using Al.refl (p : Int) 0
  · simpa [mE] using h.half
theorem Good.near {p : Nat} {g : Int} (h : Good p g) : ∀ k : Nat, cE p (pE g ((k : Int), 1) p) ((k : Int), -1)
  | 0 => by simpa using h.X
  | k + 1 => by
    have e : (((k + 1 : Nat) : Int), (1 : Int)) = aE (1, 0) ((k : Int), 1) := by apply Prod.ext <;> simp [aE] <;> grind
    rw [e]
    refine (dream h.one h.fermat g _).trans ?_
    refine (cE.add (cE.refl _ _) (h.near k)).trans ?_
    have e2 : aE (1, 0) ((k : Int), -1) = (((k + 1 : Nat) : Int), -1) := by apply Prod.ext <;> simp [aE] <;> grind
    rw [e2]; exact cE.refl _ _
theorem Good.pos {p : Nat} {g : Int} (h : Good p g) : (0 : Int) < p := by have := h.one; omega
/-- A number that is alike. -/
theorem Good.nat {p : Nat} {g : Int} (h : Good p g) (x : Int) : ∃ n : Nat, Al p x n :=
  ⟨(x % p).toNat, by rw [Int.toNat_of_nonneg (Int.emod_nonneg _ (by have := h.pos; omega))]; exact (Al.self _ _).symm⟩
theorem Good.inv {p : Nat} {g : Int} (h : Good p g) {x : Int} (hx : ¬ Al p x 0) : Al p (x ^ (p - 1)) 1 := by
  obtain ⟨n, hn⟩ := h.nat x
  have hn0 : n % p ≠ 0 := by
    intro h0
    refine hx (hn.trans (Al.of_emod ?_))
    rw [Int.zero_emod]; exact_mod_cast h0
  have := h.fermat n hn0
  refine (hn.pow (p - 1)).trans (Al.of_emod ?_)
  have h1 : (1 : Int) % p = 1 := Int.emod_eq_of_lt (by omega) (by have := h.one; omega)
  rw [h1]; exact_mod_cast this
theorem Good.pow {p : Nat} {g : Int} (h : Good p g) (x : Int) : Al p (x ^ p) x := by
  have hp : p = p - 1 + 1 := by have := h.one; omega
  by_cases hx : Al p x 0
  · refine (hx.pow p).trans ?_
    rw [Int.zero_pow (by omega)]; exact hx.symm
  · have e : x ^ p = x ^ (p - 1) * x := by conv => lhs; rw [hp, Int.pow_succ]
    rw [e]
    simpa using (h.inv hx).mul (Al.refl _ x)
/-- The power with the exponent p is the conjugate. -/
theorem Good.frobenius {p : Nat} {g : Int} (h : Good p g) (a : E) : cE p (pE g a p) (cj a) := by
  obtain ⟨x, y⟩ := a
  by_cases hy : Al p y 0
  · have h1 : cE p (x, y) (x, 0) := ⟨Al.refl _ _, hy⟩
    refine (h1.pow p).trans ?_
    rw [pE_plain]
    refine ⟨h.pow x, ?_⟩
    simpa [cj] using hy.symm.neg
  · have hp : p - 1 = p - 2 + 1 := by have := h.one; omega
    have hi := h.inv hy
    rw [hp, Int.pow_succ] at hi
    obtain ⟨k, hk⟩ := h.nat (x * y ^ (p - 2))
    have hyk : Al p (y * k) x := by
      refine ((Al.refl _ y).mul hk.symm).trans ?_
      have := (Al.refl (p : Int) x).mul hi
      rw [Int.mul_one] at this
      refine Al.trans ?_ this
      rw [show y * (x * y ^ (p - 2)) = x * (y ^ (p - 2) * y) from by grind]
      exact Al.refl _ _
    have h1 : cE p (x, y) (sE y ((k : Int), 1)) := ⟨hyk.symm, by simpa [sE] using Al.refl (p : Int) y⟩
    refine (h1.pow p).trans ?_
    rw [pE_scale]
    refine (cE.scale (h.pow y) (h.near k)).trans ⟨hyk, ?_⟩
    simpa [sE, cj] using Al.refl (p : Int) (-y)
/-- The norm is zero only where both numbers are. -/
theorem Good.norm {p : Nat} {g : Int} (h : Good p g) {a : E} (hn : Al p (nE g a) 0) : cE p a (0, 0) := by
  obtain ⟨x, y⟩ := a
  have hpos : 2 * ((p - 1) / 2) = p - 1 := by have := h.odd; omega
  have h0 : (p - 1) / 2 ≠ 0 := by have := h.one; have := h.odd; omega
  have e : Al p (x * x) (g * (y * y)) := by
    obtain ⟨k, hk⟩ := hn
    exact ⟨k, by simp only [nE] at hk; grind⟩
  have sq : ∀ z : Int, (z * z) ^ ((p - 1) / 2) = z ^ (p - 1) := fun z => by
    conv => rhs; rw [← hpos, Int.pow_mul]
    congr 1; grind
  have not1 : ∀ {z : Int}, Al p z 0 → ¬ Al p z 1 := fun hz hz1 => by
    have := hz.symm.trans hz1
    have h2 := this.emod
    rw [Int.zero_emod, Int.emod_eq_of_lt (by omega) (by have := h.one; omega)] at h2
    omega
  have hy : Al p y 0 := by
    apply Classical.byContradiction
    intro hy
    have h1 := e.pow ((p - 1) / 2)
    rw [sq, Int.mul_pow, sq] at h1
    have h2 := h1.trans (h.half.mul (h.inv hy))
    rw [Int.mul_one] at h2
    by_cases hx : Al p x 0
    · have h3 := hx.pow (p - 1)
      rw [Int.zero_pow (by omega)] at h3
      have h4 := (h3.symm.trans h2).neg
      simp at h4
      exact not1 (Al.refl _ 0) h4
    · have h3 := (h.inv hx).symm.trans h2
      have h4 := h3.emod
      rcases h3 with ⟨k, hk⟩
      have hdiv : (p : Int) ∣ 2 := ⟨k, by omega⟩
      have h5 := Int.le_of_dvd (by omega) hdiv
      have h6 := h.one
      have h7 := h.odd
      omega
  refine ⟨?_, hy⟩
  apply Classical.byContradiction
  intro hx
  have h1 := e.trans ((Al.refl _ g).mul (hy.mul hy))
  simp at h1
  have h2 := h1.pow ((p - 1) / 2)
  rw [sq, Int.zero_pow h0] at h2
  exact not1 h2 (h.inv hx)
end Go.Proofs.Ytdcdaclkeocfpaa.Ext

namespace Go.Proofs.Ytdcdaclkeocfpaa.Ext

theorem half_of {p g e : Nat} (hp : 1 < p) (he : e < 2 ^ 64) (hh : (p - 1) / 2 = e) (h : Fm.pm p 64 g e 1 = p - 1) : Al p ((g : Int) ^ ((p - 1) / 2)) (-1) := by
  have h1 := Fm.pow_is hp he h
  rw [hh]
  refine (Al.self (p : Int) _).symm.trans ?_
  have e1 : ((g ^ e % p : Nat) : Int) = (g : Int) ^ e % (p : Int) := by simp
  rw [← e1, h1]
  exact ⟨1, by omega⟩
theorem good_known {p : Int} (hk : known p = true) : ∃ q : Nat, p = (q : Int) ∧ Good q (gen p) := by
  rcases known_cases hk with rfl | rfl | rfl | rfl | rfl | rfl | rfl
  · exact ⟨17, rfl, by decide, Fm.fermat17, by decide, half_of (g := 3) (e := 8) (by decide) (by decide) (by decide) (by decide +kernel)⟩
  · exact ⟨97, rfl, by decide, Fm.fermat97, by decide, half_of (g := 5) (e := 48) (by decide) (by decide) (by decide) (by decide +kernel)⟩
  · exact ⟨193, rfl, by decide, Fm.fermat193, by decide, half_of (g := 5) (e := 96) (by decide) (by decide) (by decide) (by decide +kernel)⟩
  · exact ⟨257, rfl, by decide, Fm.fermat257, by decide, half_of (g := 3) (e := 128) (by decide) (by decide) (by decide) (by decide +kernel)⟩
  · exact ⟨12289, rfl, by decide, Fm.fermat12289, by decide, half_of (g := 11) (e := 6144) (by decide) (by decide) (by decide) (by decide +kernel)⟩
  · exact ⟨65537, rfl, by decide, Fm.fermat65537, by decide, half_of (g := 3) (e := 32768) (by decide) (by decide) (by decide) (by decide +kernel)⟩
  · exact ⟨18446744069414584321, rfl, by decide, Fm.fermatBig, by decide, half_of (g := 7) (e := 9223372034707292160) (by decide) (by decide) (by decide) (by decide +kernel)⟩
end Go.Proofs.Ytdcdaclkeocfpaa.Ext

namespace Go.Proofs.Ytdcdaclkeocfpaa.Ext

def eadd (p : Int) (a b : E) : E := (ad p a.1 b.1, ad p a.2 b.2)
def esub (p : Int) (a b : E) : E := (sb p a.1 b.1, sb p a.2 b.2)
def emul (p : Int) (a b : E) : E := (ad p (ml p a.1 b.1) (ml p (gen p) (ml p a.2 b.2)), ad p (ml p a.1 b.2) (ml p a.2 b.1))
def ecj (p : Int) (a : E) : E := (rd p a.1, sb p 0 a.2)
def enm (p : Int) (a : E) : Int := (emul p a (ecj p a)).1
def esc (p : Int) (a : E) (n : Int) : E := (ml p a.1 n, ml p a.2 n)
def einv (p : Int) (a : E) : E := esc p (ecj p a) (iv p (enm p a))
def ered (p : Int) (a : E) : E := (rd p a.1, rd p a.2)
def epw (p : Int) (a : E) (n : Nat) : E := ered p (pE (gen p) a n)

/-! An unknown prime: all is zero. -/
theorem unknown_all {p : Int} (h : known p = false) (a b : E) (n : Int) (m : Nat) :
    eadd p a b = (0, 0) ∧ esub p a b = (0, 0) ∧ emul p a b = (0, 0) ∧ ecj p a = (0, 0) ∧ enm p a = 0 ∧ esc p a n = (0, 0) ∧ einv p a = (0, 0) ∧ epw p a m = (0, 0) := by
  simp [eadd, esub, emul, ecj, enm, esc, einv, epw, ered, ad, sb, ml, rd, h]

/-! A known prime. -/
def Rd (p : Int) (a : E) : Prop := (0 ≤ a.1 ∧ a.1 < p) ∧ (0 ≤ a.2 ∧ a.2 < p)
theorem eq_of_cE {p : Int} {a b : E} (ha : Rd p a) (hb : Rd p b) (h : cE p a b) : a = b := by
  have h1 := h.1.emod
  have h2 := h.2.emod
  rw [Int.emod_eq_of_lt ha.1.1 ha.1.2, Int.emod_eq_of_lt hb.1.1 hb.1.2] at h1
  rw [Int.emod_eq_of_lt ha.2.1 ha.2.2, Int.emod_eq_of_lt hb.2.1 hb.2.2] at h2
  exact Prod.ext h1 h2
section
variable {p : Int} (hk : known p = true)
include hk
theorem red_bd (n : Int) : 0 ≤ n % p ∧ n % p < p := by
  have := known_lo hk
  exact ⟨Int.emod_nonneg _ (by omega), Int.emod_lt_of_pos _ (by omega)⟩
theorem ad_al (a b : Int) : Al p (ad p a b) (a + b) := by rw [ad, if_pos hk]; exact Al.self _ _
theorem sb_al (a b : Int) : Al p (sb p a b) (a - b) := by rw [sb, if_pos hk]; exact Al.self _ _
theorem ml_al (a b : Int) : Al p (ml p a b) (a * b) := by rw [ml, if_pos hk]; exact Al.self _ _
theorem rd_al (a : Int) : Al p (rd p a) a := by rw [rd, if_pos hk]; exact Al.self _ _
theorem eadd_al (a b : E) : cE p (eadd p a b) (aE a b) := ⟨ad_al hk _ _, ad_al hk _ _⟩
theorem esub_al (a b : E) : cE p (esub p a b) (a.1 - b.1, a.2 - b.2) := ⟨sb_al hk _ _, sb_al hk _ _⟩
theorem emul_al (a b : E) : cE p (emul p a b) (mE (gen p) a b) :=
  ⟨(ad_al hk _ _).trans ((ml_al hk _ _).add ((ml_al hk _ _).trans ((Al.refl _ _).mul (ml_al hk _ _)))), (ad_al hk _ _).trans ((ml_al hk _ _).add (ml_al hk _ _))⟩
theorem ecj_al (a : E) : cE p (ecj p a) (cj a) := ⟨rd_al hk _, by have h := sb_al hk 0 a.2; rw [Int.zero_sub] at h; exact h⟩
theorem enm_al (a : E) : Al p (enm p a) (nE (gen p) a) := by
  have h := ((emul_al hk a (ecj p a)).trans ((cE.refl p a).mul (ecj_al hk a))).1
  rw [mE_cj] at h; exact h
theorem esc_al (a : E) (n : Int) : cE p (esc p a n) (sE n a) :=
  ⟨by have h := ml_al hk a.1 n; rw [Int.mul_comm a.1 n] at h; exact h, by have h := ml_al hk a.2 n; rw [Int.mul_comm a.2 n] at h; exact h⟩
theorem ered_al (a : E) : cE p (ered p a) a := ⟨rd_al hk _, rd_al hk _⟩
theorem eadd_rd (a b : E) : Rd p (eadd p a b) := by
  simp only [Rd, eadd, ad, if_pos hk]; exact ⟨red_bd hk _, red_bd hk _⟩
theorem esub_rd (a b : E) : Rd p (esub p a b) := by
  simp only [Rd, esub, sb, if_pos hk]; exact ⟨red_bd hk _, red_bd hk _⟩
theorem emul_rd (a b : E) : Rd p (emul p a b) := by
  simp only [Rd, emul, ad, if_pos hk]; exact ⟨red_bd hk _, red_bd hk _⟩
theorem ecj_rd (a : E) : Rd p (ecj p a) := by
  simp only [Rd, ecj, rd, sb, if_pos hk]; exact ⟨red_bd hk _, red_bd hk _⟩
theorem esc_rd (a : E) (n : Int) : Rd p (esc p a n) := by
  simp only [Rd, esc, ml, if_pos hk]; exact ⟨red_bd hk _, red_bd hk _⟩
theorem ered_rd (a : E) : Rd p (ered p a) := by
  simp only [Rd, ered, rd, if_pos hk]; exact ⟨red_bd hk _, red_bd hk _⟩

theorem field_add (a b c : E) : eadd p (eadd p a b) c = eadd p a (eadd p b c) := by
  refine eq_of_cE (eadd_rd hk _ _) (eadd_rd hk _ _) (((eadd_al hk _ _).trans ((eadd_al hk _ _).add (cE.refl _ _))).trans ?_)
  rw [aE_assoc]
  exact (((cE.refl _ _).add (eadd_al hk _ _)).symm).trans (eadd_al hk _ _).symm
theorem field_mul (a b c : E) : emul p (emul p a b) c = emul p a (emul p b c) := by
  refine eq_of_cE (emul_rd hk _ _) (emul_rd hk _ _) (((emul_al hk _ _).trans ((emul_al hk _ _).mul (cE.refl _ _))).trans ?_)
  rw [mE_assoc]
  exact (((cE.refl _ _).mul (emul_al hk _ _)).symm).trans (emul_al hk _ _).symm
theorem field_mulc (a b : E) : emul p a b = emul p b a := by
  refine eq_of_cE (emul_rd hk _ _) (emul_rd hk _ _) ((emul_al hk _ _).trans ?_)
  rw [mE_comm]
  exact (emul_al hk _ _).symm
theorem field_dist (a b c : E) : emul p a (eadd p b c) = eadd p (emul p a b) (emul p a c) := by
  refine eq_of_cE (emul_rd hk _ _) (eadd_rd hk _ _) (((emul_al hk _ _).trans ((cE.refl _ _).mul (eadd_al hk _ _))).trans ?_)
  rw [mE_add]
  exact (((emul_al hk _ _).add (emul_al hk _ _)).symm).trans (eadd_al hk _ _).symm
theorem field_sub (a b : E) : esub p (eadd p a b) b = eadd p a (0, 0) := by
  refine eq_of_cE (esub_rd hk _ _) (eadd_rd hk _ _) ((esub_al hk _ _).trans ?_)
  have h : cE p ((eadd p a b).1 - b.1, (eadd p a b).2 - b.2) ((aE a b).1 - b.1, (aE a b).2 - b.2) := ⟨(eadd_al hk a b).1.sub (Al.refl _ b.1), (eadd_al hk a b).2.sub (Al.refl _ b.2)⟩
  refine h.trans (cE.trans ?_ (eadd_al hk _ _).symm)
  exact ⟨⟨0, by simp only [aE]; grind⟩, ⟨0, by simp only [aE]; grind⟩⟩

theorem norm_mul (a b : E) : enm p (emul p a b) = ml p (enm p a) (enm p b) := by
  have h1 : Al p (enm p (emul p a b)) (ml p (enm p a) (enm p b)) := by
    refine ((enm_al hk _).trans ?_).trans (ml_al hk _ _).symm
    refine Al.trans ?_ ((enm_al hk a).mul (enm_al hk b)).symm
    rw [← nE_mul]
    have h := emul_al hk a b
    exact (h.1.mul h.1).sub ((Al.refl _ _).mul (h.2.mul h.2))
  have h2 := h1.emod
  have h3 := emul_rd hk (emul p a b) (ecj p (emul p a b))
  have h4 : 0 ≤ ml p (enm p a) (enm p b) ∧ ml p (enm p a) (enm p b) < p := by rw [ml, if_pos hk]; exact red_bd hk _
  have h5 : enm p (emul p a b) % p = enm p (emul p a b) := Int.emod_eq_of_lt h3.1.1 h3.1.2
  rwa [h5, Int.emod_eq_of_lt h4.1 h4.2] at h2
theorem norm_cj (a : E) : emul p a (ecj p a) = (enm p a, 0) := by
  refine eq_of_cE (emul_rd hk _ _) ⟨(emul_rd hk a (ecj p a)).1, by simp; have := known_lo hk; omega⟩ ?_
  have h := (emul_al hk a (ecj p a)).trans ((cE.refl p a).mul (ecj_al hk a))
  rw [mE_cj] at h
  exact ⟨Al.refl _ _, h.2⟩
omit hk in
theorem zero_iff {p : Int} (x : Int) : Al p x 0 ↔ x % p = 0 := by
  constructor
  · intro h; have := h.emod; rwa [Int.zero_emod] at this
  · intro h; exact Al.of_emod (by rw [h, Int.zero_emod])
theorem norm_zero (a : E) : (enm p a = 0) ↔ (a.1 % p = 0 ∧ a.2 % p = 0) := by
  obtain ⟨q, hq, hg⟩ := good_known hk
  have h3 := emul_rd hk a (ecj p a)
  constructor
  · intro h
    have h1 : Al p (nE (gen p) a) 0 := by
      have := (enm_al hk a).symm
      rwa [h] at this
    rw [hq] at h1 hg
    have h2 := hg.norm h1
    rw [← hq] at h2
    exact ⟨(zero_iff _).1 h2.1, (zero_iff _).1 h2.2⟩
  · rintro ⟨h1, h2⟩
    have h1 := (zero_iff _).2 h1
    have h2 := (zero_iff _).2 h2
    have h4 : Al p (nE (gen p) a) 0 := by
      have := (h1.mul h1).sub ((Al.refl p (gen p)).mul (h2.mul h2))
      simpa [nE] using this
    have h5 := ((enm_al hk a).trans h4).emod
    rw [Int.zero_emod] at h5
    have h6 : enm p a % p = enm p a := Int.emod_eq_of_lt h3.1.1 h3.1.2
    rwa [h6] at h5
theorem inv_mul (a : E) (h : ¬ (a.1 % p = 0 ∧ a.2 % p = 0)) : emul p a (einv p a) = (1, 0) := by
  have hp := known_lo hk
  have hn : enm p a ≠ 0 := fun h0 => h ((norm_zero hk a).1 h0)
  have h3 := (emul_rd hk a (ecj p a)).1
  have h0 : 0 ≤ enm p a := h3.1
  have h6 : enm p a % p = enm p a := Int.emod_eq_of_lt h3.1 h3.2
  have hne : enm p a % p ≠ 0 := by rw [h6]; exact hn
  have hi := iv_mul hk h0 hne
  refine eq_of_cE (emul_rd hk _ _) ⟨⟨by simp, by simp; omega⟩, ⟨by simp, by simp; omega⟩⟩ ?_
  have h1 := (emul_al hk a (einv p a)).trans ((cE.refl p a).mul (esc_al hk (ecj p a) (iv p (enm p a))))
  rw [mE_comm, mE_scale, mE_comm] at h1
  refine h1.trans (((cE.scale (Al.refl _ _) ((cE.refl p a).mul (ecj_al hk a)))).trans ?_)
  rw [mE_cj]
  refine ⟨?_, by simpa [sE] using Al.refl p 0⟩
  have h2 := ((Al.refl p (iv p (enm p a))).mul (enm_al hk a).symm)
  refine h2.trans (Al.of_emod ?_)
  rw [hi]; exact (Int.emod_eq_of_lt (by omega) (by omega)).symm
theorem inv_zero (a : E) (h : a.1 % p = 0 ∧ a.2 % p = 0) : einv p a = (0, 0) := by
  have hn := (norm_zero hk a).2 h
  rw [einv, hn, iv_zero hk (by simp)]
  simp [esc, ml]
theorem inv_inv (a : E) (h : ¬ (a.1 % p = 0 ∧ a.2 % p = 0)) : einv p (einv p a) = ered p a := by
  have hp := known_lo hk
  have h1 := inv_mul hk a h
  have hb : ¬ ((einv p a).1 % p = 0 ∧ (einv p a).2 % p = 0) := by
    rintro ⟨h2, h3⟩
    have h4 : cE p (einv p a) (0, 0) := ⟨(zero_iff _).2 h2, (zero_iff _).2 h3⟩
    have h5 := (emul_al hk a (einv p a)).trans ((cE.refl p a).mul h4)
    rw [h1] at h5
    have h6 := h5.1.emod
    simp [mE] at h6
    rw [Int.emod_eq_of_lt (by omega) (by omega)] at h6
    omega
  have h2 := inv_mul hk (einv p a) hb
  -- a = a (b b') = (a b) b' = b'
  refine eq_of_cE (esc_rd hk _ _) (ered_rd hk _) ?_
  have e := field_mul hk a (einv p a) (einv p (einv p a))
  rw [h1, h2] at e
  have h7 := emul_al hk (1, 0) (einv p (einv p a))
  rw [e, mE_comm, mE_one] at h7
  have h8 := emul_al hk a (1, 0)
  rw [mE_one] at h8
  exact (h7.symm.trans h8).trans (ered_al hk a).symm
theorem pow_sum (a : E) (m n : Nat) : epw p a (m + n) = emul p (epw p a m) (epw p a n) := by
  refine eq_of_cE (ered_rd hk _) (emul_rd hk _ _) ((ered_al hk _).trans ?_)
  rw [pE_add]
  exact ((ered_al hk _).mul (ered_al hk _)).symm.trans (emul_al hk _ _).symm
theorem pow_frobenius (a : E) : epw p a p.toNat = ecj p a := by
  obtain ⟨q, hq, hg⟩ := good_known hk
  refine eq_of_cE (ered_rd hk _) (ecj_rd hk _) ((ered_al hk _).trans ?_)
  refine cE.trans ?_ (ecj_al hk a).symm
  have h := hg.frobenius a
  rw [← hq] at h
  have e : q = p.toNat := by omega
  rwa [e] at h
theorem cj_same (a : E) : (ecj p a = ered p a) ↔ a.2 % p = 0 := by
  have hp := known_lo hk
  obtain ⟨q, hq, hg⟩ := good_known hk
  constructor
  · intro h
    have h1 := ((ecj_al hk a).symm.trans (by rw [h]; exact ered_al hk a)).2
    obtain ⟨k, h2⟩ := h1
    simp only [cj] at h2
    have ho := hg.odd
    refine (zero_iff _).1 ?_
    have h4 : p = 2 * (p / 2) + 1 := by omega
    have h5 : p * k = -2 * a.2 := by omega
    have h6 : k % 2 = 0 := by
      rcases Int.emod_two_eq k with h | h
      · exact h
      · exfalso
        have : (p * k) % 2 = 1 := by rw [Int.mul_emod, h]; omega
        omega
    have h7 : k = 2 * (k / 2) := by omega
    have h9 : p * (2 * (k / 2)) = -2 * a.2 := by rw [← h7]; exact h5
    have h10 : p * (2 * (k / 2)) = 2 * (p * (k / 2)) := by grind
    have h11 : p * (k / 2) = - a.2 := by omega
    exact ⟨-(k / 2), by grind⟩
  · intro h
    have h1 := (zero_iff _).2 h
    refine eq_of_cE (ecj_rd hk _) (ered_rd hk _) ((ecj_al hk a).trans (cE.trans ?_ (ered_al hk a).symm))
    refine ⟨Al.refl _ _, ?_⟩
    have h2 := h1.neg
    rw [Int.neg_zero] at h2
    exact h2.trans h1.symm
theorem pow_next (a : E) (m : Nat) : emul p (epw p a m) a = epw p a (m + 1) := by
  refine eq_of_cE (emul_rd hk _ _) (ered_rd hk _) ((emul_al hk _ _).trans ?_)
  exact ((ered_al hk _).mul (cE.refl _ a)).trans (ered_al hk _).symm
theorem pow_zero (a : E) : epw p a 0 = (1, 0) := by
  have hp := known_lo hk
  refine eq_of_cE (ered_rd hk _) ⟨⟨by simp, by simp; omega⟩, ⟨by simp, by simp; omega⟩⟩ (ered_al hk _)
theorem mul_red (a b : E) : emul p (ered p a) b = emul p a b :=
  eq_of_cE (emul_rd hk _ _) (emul_rd hk _ _) (((emul_al hk _ _).trans ((ered_al hk a).mul (cE.refl _ b))).trans (emul_al hk a b).symm)
end
end Go.Proofs.Ytdcdaclkeocfpaa.Ext

namespace Go.Proofs.Ytdcdaclkeocfpaa
open Go.RowKit Go.BigFrame Ext

def m0 (p a0 a1 b0 b1 : Int) : Int := ad p (ml p a0 b0) (ml p (gen p) (ml p a1 b1))
def m1 (p a0 a1 b0 b1 : Int) : Int := ad p (ml p a0 b1) (ml p a1 b0)
def nm (p a0 a1 : Int) : Int := enm p (a0, a1)
def i0 (p a0 a1 : Int) : Int := ml p (rd p a0) (iv p (nm p a0 a1))
def i1 (p a0 a1 : Int) : Int := ml p (sb p 0 a1) (iv p (nm p a0 a1))
instance {p a0 a1 b0 b1 : Int} : U (m0 p a0 a1 b0 b1) := by unfold m0; infer_instance
instance {p a0 a1 b0 b1 : Int} : U (m1 p a0 a1 b0 b1) := by unfold m1; infer_instance
instance {p a0 a1 : Int} : U (nm p a0 a1) := by unfold nm enm emul; infer_instance
instance {p a0 a1 : Int} : U (i0 p a0 a1) := by unfold i0; infer_instance
instance {p a0 a1 : Int} : U (i1 p a0 a1) := by unfold i1; infer_instance
theorem emul_eq (p a0 a1 b0 b1 : Int) : emul p (a0, a1) (b0, b1) = (m0 p a0 a1 b0 b1, m1 p a0 a1 b0 b1) := rfl
theorem einv_eq (p a0 a1 : Int) : einv p (a0, a1) = (i0 p a0 a1, i1 p a0 a1) := rfl
theorem nm_eq (p a0 a1 : Int) : m0 p a0 a1 (rd p a0) (sb p 0 a1) = nm p a0 a1 := rfl
/-- The norm as the program writes it. -/
theorem nm_sub (p a0 a1 : Int) : sb p (ml p a0 a0) (ml p (gen p) (ml p a1 a1)) = nm p a0 a1 := by
  by_cases hk : known p = true
  · have h1 : Al p (sb p (ml p a0 a0) (ml p (gen p) (ml p a1 a1))) (nE (gen p) (a0, a1)) := by
      refine (sb_al hk _ _).trans ?_
      exact (ml_al hk _ _).sub ((ml_al hk _ _).trans ((Al.refl _ _).mul (ml_al hk _ _)))
    have h2 := (h1.trans (enm_al hk (a0, a1)).symm).emod
    have h3 := (emul_rd hk (a0, a1) (ecj p (a0, a1))).1
    have h4 : 0 ≤ sb p (ml p a0 a0) (ml p (gen p) (ml p a1 a1)) ∧ sb p (ml p a0 a0) (ml p (gen p) (ml p a1 a1)) < p := by
      rw [sb, if_pos hk]; exact red_bd hk _
    rw [Int.emod_eq_of_lt h4.1 h4.2] at h2
    rw [h2]
    exact Int.emod_eq_of_lt h3.1 h3.2
  · have hk : known p = false := by simpa using hk
    have := (unknown_all hk (a0, a1) (a0, a1) 0 0).2.2.2.2.1
    rw [nm, this, sb, hk]
    rfl

set_option maxHeartbeats 2000000 in
theorem xMul_u (p a0 a1 b0 b1 : Int) [ha : U a0] [hc : U a1] [hb : U b0] [hd : U b1] (w : World) :
    Calls Try.prog 58 #[.agg #[.int .u64 p], .agg #[.int .u64 a0, .int .u64 a1], .agg #[.int .u64 b0, .int .u64 b1]] w fun e w' => e = .returned (.agg #[.int .u64 (m0 p a0 a1 b0 b1), .int .u64 (m1 p a0 a1 b0 b1)]) ∧ Nw w.heap.size w w' := by
  go_enter Try.func58, Try.ntmps58
  go_wp2
  refine name_world ?_
  intro W hW
  have hnw : Nw w.heap.size w W := by rw [hW]; (repeat (first | exact Nw.refl _ _ | refine Nw.drew ?_ | refine Nw.drewN ?_ _ | refine Nw.made (Nat.le_refl _) ?_ _ _))
  have s0 : W.cell? ⟨w.heap.size, 0, none⟩ = some (.int .u64 p) := by rw [hW]; go_simp
  have c0 := fun q : NwAt W => q.nw.hold s0
  have s1 : W.cell? ⟨w.heap.size + 1, 0, none⟩ = some (.int .u64 a0) := by rw [hW]; go_simp
  have c1 := fun q : NwAt W => q.nw.hold s1
  have s2 : W.cell? ⟨w.heap.size + 1, 1, none⟩ = some (.int .u64 a1) := by rw [hW]; go_simp
  have c2 := fun q : NwAt W => q.nw.hold s2
  have s3 : W.cell? ⟨w.heap.size + 1 + 1, 0, none⟩ = some (.int .u64 b0) := by rw [hW]; go_simp
  have c3 := fun q : NwAt W => q.nw.hold s3
  have s4 : W.cell? ⟨w.heap.size + 1 + 1, 1, none⟩ = some (.int .u64 b1) := by rw [hW]; go_simp
  have c4 := fun q : NwAt W => q.nw.hold s4
  have r0 : W.cell? ⟨w.heap.size + 1 + 1 + 1, 0, none⟩ = some (.int .u64 0) := by rw [hW]; go_simp
  have r1 : W.cell? ⟨w.heap.size + 1 + 1 + 1, 1, none⟩ = some (.int .u64 0) := by rw [hW]; go_simp
  have z0 : W.frozen? ⟨w.heap.size + 1 + 1 + 1, 0, none⟩ = false := by rw [hW]; go_simp
  have z1 : W.frozen? ⟨w.heap.size + 1 + 1 + 1, 1, none⟩ = false := by rw [hW]; go_simp
  have k0 := fun q : NwAt W => q.nw.hold r0
  have k1 := fun q : NwAt W => q.nw.hold r1
  have l0 := fun q : NwAt W => q.nw.holdf z0
  have l1 := fun q : NwAt W => q.nw.holdf z1
  clear hW
  refine from_here ?_
  intro q
  refine wp_region_nw (by kernel_rfl) (by kernel_rfl) ?_
  repeat (go_big_quiet_step ((first | (go_at_call 38; exact nwAt_of (fMul_u _ _ _ _)) | (go_at_call 57; exact nwAt_of (fGenerator_u _ _)))))
  refine wpQuiet_nil ?_
  clear q
  rintro _ ⟨q, rfl⟩
  go_wp2
  refine wp_region_nwt 24 (by kernel_rfl) (by kernel_rfl) ?_
  simp only [List.take_succ_cons, List.take_zero, List.drop_succ_cons, List.drop_zero]
  repeat (go_big_quiet_step ((first | (go_at_call 38; exact nwAt_of (fMul_u _ _ _ _)) | (go_at_call 97; exact nwAt_of (fAdd_u _ _ _ _)))))
  refine wpQuiet_nil ?_
  clear q
  rintro _ ⟨q, rfl⟩
  go_wp2
  exact bodyPost_ret (v := .agg #[.int .u64 (m0 p a0 a1 b0 b1), .int .u64 (m1 p a0 a1 b0 b1)]) (by simp [results, Try.results58, go_sem, k0, k1] <;> exact ⟨rfl, rfl⟩) rfl ⟨rfl, by have hqn := q.nw; exact by (repeat (first | exact Nw.refl _ _ | assumption | refine Nw.drew ?_ | refine Nw.drewN ?_ _ | refine Nw.set ?_ (by first | omega | (simp; done) | (simp; omega)) _ | refine Nw.made (Nat.le_refl _) ?_ _ _ | refine Nw.next (Nat.le_refl _) ?_ (by assumption)))⟩

set_option maxHeartbeats 2000000 in
theorem xConjugate_u (p a0 a1 : Int) [ha : U a0] [hc : U a1] (w : World) :
    Calls Try.prog 99 #[.agg #[.int .u64 p], .agg #[.int .u64 a0, .int .u64 a1]] w fun e w' => e = .returned (.agg #[.int .u64 (rd p a0), .int .u64 (sb p 0 a1)]) ∧ Nw w.heap.size w w' := by
  go_enter Try.func99, Try.ntmps99
  go_wp2
  refine name_world ?_
  intro W hW
  have hnw : Nw w.heap.size w W := by rw [hW]; (repeat (first | exact Nw.refl _ _ | refine Nw.drew ?_ | refine Nw.drewN ?_ _ | refine Nw.made (Nat.le_refl _) ?_ _ _))
  have s0 : W.cell? ⟨w.heap.size, 0, none⟩ = some (.int .u64 p) := by rw [hW]; go_simp
  have c0 := fun q : NwAt W => q.nw.hold s0
  have s1 : W.cell? ⟨w.heap.size + 1, 0, none⟩ = some (.int .u64 a0) := by rw [hW]; go_simp
  have c1 := fun q : NwAt W => q.nw.hold s1
  have s2 : W.cell? ⟨w.heap.size + 1, 1, none⟩ = some (.int .u64 a1) := by rw [hW]; go_simp
  have c2 := fun q : NwAt W => q.nw.hold s2
  have r0 : W.cell? ⟨w.heap.size + 1 + 1, 0, none⟩ = some (.int .u64 0) := by rw [hW]; go_simp
  have r1 : W.cell? ⟨w.heap.size + 1 + 1, 1, none⟩ = some (.int .u64 0) := by rw [hW]; go_simp
  have z0 : W.frozen? ⟨w.heap.size + 1 + 1, 0, none⟩ = false := by rw [hW]; go_simp
  have z1 : W.frozen? ⟨w.heap.size + 1 + 1, 1, none⟩ = false := by rw [hW]; go_simp
  have k0 := fun q : NwAt W => q.nw.hold r0
  have k1 := fun q : NwAt W => q.nw.hold r1
  have l0 := fun q : NwAt W => q.nw.holdf z0
  have l1 := fun q : NwAt W => q.nw.holdf z1
  clear hW
  refine from_here ?_
  intro q
  refine wp_region_nwt 9 (by kernel_rfl) (by kernel_rfl) ?_
  simp only [List.take_succ_cons, List.take_zero, List.drop_succ_cons, List.drop_zero]
  repeat (go_big_quiet_step ((first | (go_at_call 56; exact nwAt_of (fReduce_u _ _ _)) | (go_at_call 68; exact nwAt_of (fNeg_u _ _ _)))))
  refine wpQuiet_nil ?_
  clear q
  rintro _ ⟨q, rfl⟩
  go_wp2
  exact bodyPost_ret (v := .agg #[.int .u64 (rd p a0), .int .u64 (sb p 0 a1)]) (by simp [results, Try.results99, go_sem, k0, k1] <;> exact ⟨rfl, rfl⟩) rfl ⟨rfl, by have hqn := q.nw; exact by (repeat (first | exact Nw.refl _ _ | assumption | refine Nw.drew ?_ | refine Nw.drewN ?_ _ | refine Nw.set ?_ (by first | omega | (simp; done) | (simp; omega)) _ | refine Nw.made (Nat.le_refl _) ?_ _ _ | refine Nw.next (Nat.le_refl _) ?_ (by assumption)))⟩

set_option maxHeartbeats 2000000 in
theorem xScale_u (p a0 a1 n : Int) [ha : U a0] [hc : U a1] [hn : U n] (w : World) :
    Calls Try.prog 98 #[.agg #[.int .u64 p], .agg #[.int .u64 a0, .int .u64 a1], .int .u64 n] w fun e w' => e = .returned (.agg #[.int .u64 (ml p a0 n), .int .u64 (ml p a1 n)]) ∧ Nw w.heap.size w w' := by
  go_enter Try.func98, Try.ntmps98
  go_wp2
  refine name_world ?_
  intro W hW
  have hnw : Nw w.heap.size w W := by rw [hW]; (repeat (first | exact Nw.refl _ _ | refine Nw.drew ?_ | refine Nw.drewN ?_ _ | refine Nw.made (Nat.le_refl _) ?_ _ _))
  have s0 : W.cell? ⟨w.heap.size, 0, none⟩ = some (.int .u64 p) := by rw [hW]; go_simp
  have c0 := fun q : NwAt W => q.nw.hold s0
  have s1 : W.cell? ⟨w.heap.size + 1, 0, none⟩ = some (.int .u64 a0) := by rw [hW]; go_simp
  have c1 := fun q : NwAt W => q.nw.hold s1
  have s2 : W.cell? ⟨w.heap.size + 1, 1, none⟩ = some (.int .u64 a1) := by rw [hW]; go_simp
  have c2 := fun q : NwAt W => q.nw.hold s2
  have r0 : W.cell? ⟨w.heap.size + 1 + 1, 0, none⟩ = some (.int .u64 0) := by rw [hW]; go_simp
  have r1 : W.cell? ⟨w.heap.size + 1 + 1, 1, none⟩ = some (.int .u64 0) := by rw [hW]; go_simp
  have z0 : W.frozen? ⟨w.heap.size + 1 + 1, 0, none⟩ = false := by rw [hW]; go_simp
  have z1 : W.frozen? ⟨w.heap.size + 1 + 1, 1, none⟩ = false := by rw [hW]; go_simp
  have k0 := fun q : NwAt W => q.nw.hold r0
  have k1 := fun q : NwAt W => q.nw.hold r1
  have l0 := fun q : NwAt W => q.nw.holdf z0
  have l1 := fun q : NwAt W => q.nw.holdf z1
  clear hW
  refine from_here ?_
  intro q
  refine wp_region_nwt 11 (by kernel_rfl) (by kernel_rfl) ?_
  simp only [List.take_succ_cons, List.take_zero, List.drop_succ_cons, List.drop_zero]
  repeat (go_big_quiet_step ((first | (go_at_call 38; exact nwAt_of (fMul_u _ _ _ _)))))
  refine wpQuiet_nil ?_
  clear q
  rintro _ ⟨q, rfl⟩
  go_wp2
  exact bodyPost_ret (v := .agg #[.int .u64 (ml p a0 n), .int .u64 (ml p a1 n)]) (by simp [results, Try.results98, go_sem, k0, k1] <;> exact ⟨rfl, rfl⟩) rfl ⟨rfl, by have hqn := q.nw; exact by (repeat (first | exact Nw.refl _ _ | assumption | refine Nw.drew ?_ | refine Nw.drewN ?_ _ | refine Nw.set ?_ (by first | omega | (simp; done) | (simp; omega)) _ | refine Nw.made (Nat.le_refl _) ?_ _ _ | refine Nw.next (Nat.le_refl _) ?_ (by assumption)))⟩

end Go.Proofs.Ytdcdaclkeocfpaa

namespace Go.Proofs.Ytdcdaclkeocfpaa
open Go.RowKit Go.BigFrame Ext

set_option maxHeartbeats 2000000 in
theorem xNorm_u (p a0 a1 : Int) [ha : U a0] [hc : U a1] (w : World) :
    Calls Try.prog 59 #[.agg #[.int .u64 p], .agg #[.int .u64 a0, .int .u64 a1]] w fun e w' => e = .returned (.int .u64 (nm p a0 a1)) ∧ Nw w.heap.size w w' := by
  go_enter Try.func59, Try.ntmps59
  go_wp2
  refine name_world ?_
  intro W hW
  have hnw : Nw w.heap.size w W := by rw [hW]; (repeat (first | exact Nw.refl _ _ | refine Nw.drew ?_ | refine Nw.drewN ?_ _ | refine Nw.made (Nat.le_refl _) ?_ _ _))
  have s0 : W.cell? ⟨w.heap.size, 0, none⟩ = some (.int .u64 p) := by rw [hW]; go_simp
  have c0 := fun q : NwAt W => q.nw.hold s0
  have s1 : W.cell? ⟨w.heap.size + 1, 0, none⟩ = some (.int .u64 a0) := by rw [hW]; go_simp
  have c1 := fun q : NwAt W => q.nw.hold s1
  have s2 : W.cell? ⟨w.heap.size + 1, 1, none⟩ = some (.int .u64 a1) := by rw [hW]; go_simp
  have c2 := fun q : NwAt W => q.nw.hold s2
  clear hW
  refine from_here ?_
  intro q
  refine wp_region_nw (by kernel_rfl) (by kernel_rfl) ?_
  repeat (go_big_quiet_step ((first | (go_at_call 38; exact nwAt_of (fMul_u _ _ _ _)) | (go_at_call 57; exact nwAt_of (fGenerator_u _ _)) | (go_at_call 88; exact nwAt_of (fSub_u _ _ _ _)))))
  refine wpQuiet_nil ?_
  clear q
  rintro _ ⟨q, rfl⟩
  go_wp2
  go_ret
  exact ⟨ret_int (nm_sub p a0 a1), by have hqn := q.nw; exact by (repeat (first | exact Nw.refl _ _ | assumption | refine Nw.drew ?_ | refine Nw.drewN ?_ _ | refine Nw.set ?_ (by first | omega | (simp; done) | (simp; omega)) _ | refine Nw.made (Nat.le_refl _) ?_ _ _ | refine Nw.next (Nat.le_refl _) ?_ (by assumption)))⟩

set_option maxHeartbeats 2000000 in
theorem xInv_u (p a0 a1 : Int) [hp : U p] [ha : U a0] [hc : U a1] (w : World) :
    Calls Try.prog 60 #[.agg #[.int .u64 p], .agg #[.int .u64 a0, .int .u64 a1]] w fun e w' => e = .returned (.agg #[.int .u64 (i0 p a0 a1), .int .u64 (i1 p a0 a1)]) ∧ Nw w.heap.size w w' := by
  go_enter Try.func60, Try.ntmps60
  go_wp2
  refine name_world ?_
  intro W hW
  have hnw : Nw w.heap.size w W := by rw [hW]; (repeat (first | exact Nw.refl _ _ | refine Nw.drew ?_ | refine Nw.drewN ?_ _ | refine Nw.made (Nat.le_refl _) ?_ _ _))
  have s0 : W.cell? ⟨w.heap.size, 0, none⟩ = some (.int .u64 p) := by rw [hW]; go_simp
  have c0 := fun q : NwAt W => q.nw.hold s0
  have s1 : W.cell? ⟨w.heap.size + 1, 0, none⟩ = some (.int .u64 a0) := by rw [hW]; go_simp
  have c1 := fun q : NwAt W => q.nw.hold s1
  have s2 : W.cell? ⟨w.heap.size + 1, 1, none⟩ = some (.int .u64 a1) := by rw [hW]; go_simp
  have c2 := fun q : NwAt W => q.nw.hold s2
  have r0 : W.cell? ⟨w.heap.size + 1 + 1, 0, none⟩ = some (.int .u64 0) := by rw [hW]; go_simp
  have r1 : W.cell? ⟨w.heap.size + 1 + 1, 1, none⟩ = some (.int .u64 0) := by rw [hW]; go_simp
  have z0 : W.frozen? ⟨w.heap.size + 1 + 1, 0, none⟩ = false := by rw [hW]; go_simp
  have z1 : W.frozen? ⟨w.heap.size + 1 + 1, 1, none⟩ = false := by rw [hW]; go_simp
  have k0 := fun q : NwAt W => q.nw.hold r0
  have k1 := fun q : NwAt W => q.nw.hold r1
  have l0 := fun q : NwAt W => q.nw.holdf z0
  have l1 := fun q : NwAt W => q.nw.holdf z1
  clear hW
  refine from_here ?_
  intro q
  refine wp_region_nwt 10 (by kernel_rfl) (by kernel_rfl) ?_
  simp only [List.take_succ_cons, List.take_zero, List.drop_succ_cons, List.drop_zero]
  repeat (go_big_quiet_step ((first | (go_at_call 99; exact nwAt_of (xConjugate_u _ _ _ _)) | (go_at_call 59; exact nwAt_of (xNorm_u _ _ _ _)) | (go_at_call 87; exact nwAt_of (fInv_u _ _ _)) | (go_at_call 98; exact nwAt_of (xScale_u _ _ _ _ _)))))
  refine wpQuiet_nil ?_
  clear q
  rintro _ ⟨q, rfl⟩
  go_wp2
  exact bodyPost_ret (v := .agg #[.int .u64 (i0 p a0 a1), .int .u64 (i1 p a0 a1)]) (by simp [results, Try.results60, go_sem, k0, k1] <;> exact ⟨rfl, rfl⟩) rfl ⟨rfl, by have hqn := q.nw; exact by (repeat (first | exact Nw.refl _ _ | assumption | refine Nw.drew ?_ | refine Nw.drewN ?_ _ | refine Nw.set ?_ (by first | omega | (simp; done) | (simp; omega)) _ | refine Nw.made (Nat.le_refl _) ?_ _ _ | refine Nw.next (Nat.le_refl _) ?_ (by assumption)))⟩

end Go.Proofs.Ytdcdaclkeocfpaa
