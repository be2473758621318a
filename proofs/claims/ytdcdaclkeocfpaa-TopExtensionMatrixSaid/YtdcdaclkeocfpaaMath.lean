/- Plain arithmetic modulo the seven primes: powers, orders, Fermat's little theorem from a generator. -/
namespace Go.Proofs.Ytdcdaclkeocfpaa.Fm

/-- The power of a with the exponent e modulo p, by repeated squaring with fuel. -/
def pm (p : Nat) : Nat → Nat → Nat → Nat → Nat
  | 0, _, _, acc => acc
  | n + 1, a, e, acc => if e = 0 then acc else pm p n (a * a % p) (e / 2) (if e % 2 = 1 then acc * a % p else acc)

theorem mod_mul_mod (a b p : Nat) : a % p * b % p = a * b % p := by
  rw [Nat.mul_mod, Nat.mod_mod, ← Nat.mul_mod]
theorem mul_mod_mod (a b p : Nat) : a * (b % p) % p = a * b % p := by
  rw [Nat.mul_mod, Nat.mod_mod, ← Nat.mul_mod]

theorem pow_sq_half (a e : Nat) : a ^ e = (a * a) ^ (e / 2) * (if e % 2 = 1 then a else 1) := by
  have h : a ^ e = a ^ (2 * (e / 2) + e % 2) := by rw [Nat.div_add_mod]
  rw [h, Nat.pow_add, Nat.pow_mul, Nat.pow_two]
  rcases Nat.mod_two_eq_zero_or_one e with h2 | h2 <;> simp [h2]

theorem pm_eq (p : Nat) : ∀ (n a e acc : Nat), e < 2 ^ n → acc < p → pm p n a e acc = acc * a ^ e % p := by
  intro n
  induction n with
  | zero => intro a e acc he ha; have : e = 0 := by simpa using he
            subst this; simp [pm, Nat.mod_eq_of_lt ha]
  | succ n ih =>
    intro a e acc he ha
    unfold pm
    by_cases h0 : e = 0
    · subst h0; simp [Nat.mod_eq_of_lt ha]
    · rw [if_neg h0]
      have hp : 0 < p := by omega
      have he2 : e / 2 < 2 ^ n := by rw [Nat.pow_succ] at he; omega
      rw [ih _ _ _ he2 (by split; exact Nat.mod_lt _ hp; exact ha)]
      rw [pow_sq_half a e]
      have hq : (a * a % p) ^ (e / 2) % p = (a * a) ^ (e / 2) % p := (Nat.pow_mod (a * a) (e / 2) p).symm
      by_cases h1 : e % 2 = 1
      · simp only [h1, if_true]
        rw [mod_mul_mod, ← mul_mod_mod, hq, mul_mod_mod]
        congr 1
        rw [Nat.mul_assoc, Nat.mul_comm a]
      · simp only [h1, if_false, Nat.mul_one]
        rw [← mul_mod_mod, hq, mul_mod_mod]

/-- one modulo p -/
theorem pow_one_mul {p g a b : Nat} (ha : g ^ a % p = 1 % p) (hb : g ^ b % p = 1 % p) : g ^ (a + b) % p = 1 % p := by
  rw [Nat.pow_add, Nat.mul_mod, ha, hb, ← Nat.mul_mod]
theorem pow_one_times {p g a : Nat} (ha : g ^ a % p = 1 % p) (k : Nat) : g ^ (a * k) % p = 1 % p := by
  rw [Nat.pow_mul, Nat.pow_mod, ha, ← Nat.pow_mod, Nat.one_pow]
theorem pow_one_mod {p g a b : Nat} (ha : g ^ a % p = 1 % p) (hb : g ^ b % p = 1 % p) : g ^ (a % b) % p = 1 % p := by
  have h : g ^ a = (g ^ b) ^ (a / b) * g ^ (a % b) := by rw [← Nat.pow_mul, ← Nat.pow_add, Nat.div_add_mod]
  have h2 : (g ^ b) ^ (a / b) % p = 1 % p := by rw [← Nat.pow_mul]; exact pow_one_times hb _
  rw [h, Nat.mul_mod, h2, ← Nat.mul_mod, Nat.one_mul] at ha
  exact ha
theorem pow_one_gcd {p g : Nat} : ∀ (a b : Nat), g ^ a % p = 1 % p → g ^ b % p = 1 % p → g ^ (Nat.gcd a b) % p = 1 % p := by
  intro a b
  induction a, b using Nat.gcd.induction with
  | H0 n => intro _ h; simpa using h
  | H1 m n hm ih => intro h1 h2; rw [Nat.gcd_rec]; exact ih (pow_one_mod h2 h1) h1

/-- r divides n, or n and r have no common divisor: what is used of a prime r -/
def Splits (r : Nat) : Prop := ∀ n, r ∣ n ∨ Nat.Coprime n r
theorem splits_of (r s : Nat) (hs : r < s * s) (h : ∀ d, d < s → d ∣ r → d = 1) : Splits r := by
  intro n
  have hd : Nat.gcd n r ∣ r := Nat.gcd_dvd_right _ _
  obtain ⟨e, he⟩ := hd
  by_cases h1 : Nat.gcd n r < s
  · exact Or.inr (h _ h1 (Nat.gcd_dvd_right _ _))
  · left
    have hes : e < s := by
      apply Nat.lt_of_not_le; intro hc
      have := Nat.mul_le_mul (Nat.le_of_not_lt h1) hc
      omega
    have he1 := h e hes ⟨Nat.gcd n r, by rw [Nat.mul_comm]; exact he⟩
    rw [he1, Nat.mul_one] at he
    rw [he]; exact Nat.gcd_dvd_left _ _

/-- the order of g is N, if the powers with the exponents N / r are not 1 and N is a product of powers of the r -/
theorem order_full {p g N : Nat} (rs : List Nat) (hN : 0 < N) (hg : g ^ N % p = 1 % p)
    (hr : ∀ r ∈ rs, Splits r ∧ 0 < r ∧ g ^ (N / r) % p ≠ 1 % p)
    (hall : ∀ q, (∀ r ∈ rs, Nat.Coprime q r) → Nat.Coprime q N) :
    ∀ k, 0 < k → k < N → g ^ k % p ≠ 1 % p := by
  intro k hk hkN hc
  have hd := pow_one_gcd k N hc hg
  have hdN : Nat.gcd k N ∣ N := Nat.gcd_dvd_right _ _
  have hdk : Nat.gcd k N ≤ k := Nat.le_of_dvd hk (Nat.gcd_dvd_left _ _)
  generalize Nat.gcd k N = d at hd hdN hdk
  obtain ⟨q, rfl⟩ := hdN
  by_cases hex : ∃ r, r ∈ rs ∧ r ∣ q
  · obtain ⟨r, hrm, t, rfl⟩ := hex
    obtain ⟨_, hr0, hne⟩ := hr r hrm
    apply hne
    have : d * (r * t) / r = d * t := by
      rw [show d * (r * t) = r * (d * t) from by rw [Nat.mul_left_comm], Nat.mul_div_cancel_left _ hr0]
    rw [this]
    exact pow_one_times hd t
  · have hcop : ∀ r ∈ rs, Nat.Coprime q r := by
      intro r hrm
      rcases (hr r hrm).1 q with h | h
      · exact absurd ⟨r, hrm, h⟩ hex
      · exact h
    have h1 := hall q hcop
    have hq1 : q = 1 := by
      have : Nat.gcd q (d * q) = q := Nat.gcd_eq_left ⟨d, Nat.mul_comm _ _⟩
      unfold Nat.Coprime at h1; omega
    subst hq1; omega

/-- g has full order modulo p: every number that p does not divide is a power of g -/
theorem covers {p g : Nat} (hp : 1 < p) (hg0 : ∀ k, g ^ k % p ≠ 0) (hinv : g ^ (p - 1) % p = 1)
    (ho : ∀ k, 0 < k → k < p - 1 → g ^ k % p ≠ 1) :
    ∀ a, 0 < a → a < p → ∃ k, g ^ k % p = a := by
  intro a ha hap
  apply Classical.byContradiction
  intro hno
  have hno : ∀ k, g ^ k % p ≠ a := fun k h => hno ⟨k, h⟩
  have inj : ∀ i j, i < j → j < p - 1 → g ^ i % p ≠ g ^ j % p := by
    intro i j hij hj he
    apply ho (j - i) (by omega) (by omega)
    -- multiply by g^(p-1-i)
    have h1 : g ^ (p - 1 - i) * g ^ i = g ^ (p - 1) := by rw [← Nat.pow_add]; congr 1; omega
    have h2 : g ^ (p - 1 - i) * g ^ j = g ^ (p - 1) * g ^ (j - i) := by rw [← Nat.pow_add, ← Nat.pow_add]; congr 1; omega
    have h3 : g ^ (p - 1 - i) * g ^ i % p = g ^ (p - 1 - i) * g ^ j % p := by rw [← mul_mod_mod, he, mul_mod_mod]
    rw [h1, h2, ← mod_mul_mod, hinv, Nat.one_mul] at h3
    exact h3.symm
  have nd : ((List.range (p - 1)).map (fun k => g ^ k % p)).Nodup := by
    unfold List.Nodup
    rw [List.pairwise_map]
    refine List.Pairwise.imp_of_mem ?_ List.pairwise_lt_range
    intro x y hx hy hxy
    exact inj x y hxy (by simpa using hy)
  have nd2 : (a :: (List.range (p - 1)).map (fun k => g ^ k % p)).Nodup := by
    rw [List.nodup_cons]
    refine ⟨?_, nd⟩
    intro hm
    rw [List.mem_map] at hm
    obtain ⟨k, _, hk⟩ := hm
    exact hno k hk
  have sub : (a :: (List.range (p - 1)).map (fun k => g ^ k % p)) ⊆ List.range' 1 (p - 1) := by
    intro x hx
    rw [List.mem_range'_1]
    rcases List.mem_cons.1 hx with rfl | hx
    · omega
    · rw [List.mem_map] at hx
      obtain ⟨k, _, rfl⟩ := hx
      have := hg0 k
      have := Nat.mod_lt (g ^ k) (show 0 < p by omega)
      omega
  have := nd2.length_le_of_subset sub
  simp at this
  omega

theorem fermat_of {p g : Nat} (hp : 1 < p) (hinv : g ^ (p - 1) % p = 1)
    (ho : ∀ k, 0 < k → k < p - 1 → g ^ k % p ≠ 1) :
    ∀ a, a % p ≠ 0 → a ^ (p - 1) % p = 1 := by
  intro a ha
  have hg0 : ∀ k, g ^ k % p ≠ 0 := by
    intro k hk
    have h1 : g ^ (k * (p - 1)) % p = 1 := by
      rw [Nat.mul_comm, Nat.pow_mul, Nat.pow_mod, hinv, Nat.one_pow, Nat.mod_eq_of_lt hp]
    have h2 : g ^ (k * (p - 1)) % p = 0 := by
      rw [Nat.pow_mul, Nat.pow_mod, hk, Nat.zero_pow (by omega), Nat.zero_mod]
    omega
  obtain ⟨k, hk⟩ := covers hp hg0 hinv ho (a % p) (by omega) (Nat.mod_lt _ (by omega))
  rw [Nat.pow_mod, ← hk, ← Nat.pow_mod, ← Nat.pow_mul, Nat.mul_comm, Nat.pow_mul, Nat.pow_mod, hinv, Nat.one_pow, Nat.mod_eq_of_lt hp]

end Go.Proofs.Ytdcdaclkeocfpaa.Fm

namespace Go.Proofs.Ytdcdaclkeocfpaa.Fm
theorem sp2 : Splits 2 := splits_of 2 2 (by decide) (by decide)
theorem sp3 : Splits 3 := splits_of 3 2 (by decide) (by decide)
theorem sp5 : Splits 5 := splits_of 5 3 (by decide) (by decide)
theorem sp17 : Splits 17 := splits_of 17 5 (by decide) (by decide)
theorem sp257 : Splits 257 := splits_of 257 17 (by decide) (by decide +kernel)
theorem sp65537 : Splits 65537 := splits_of 65537 257 (by decide) (by decide +kernel)

theorem pow_is {p g e r : Nat} (hp : 1 < p) (he : e < 2 ^ 64) (h : pm p 64 g e 1 = r) : g ^ e % p = r := by
  rw [← h, pm_eq p 64 g e 1 he hp, Nat.one_mul]
theorem pow_not {p g e : Nat} (hp : 1 < p) (he : e < 2 ^ 64) (h : pm p 64 g e 1 ≠ 1) : g ^ e % p ≠ 1 % p := by
  rw [pow_is hp he rfl, Nat.mod_eq_of_lt hp]; exact h

theorem cop2 {q m : Nat} (h : Nat.Coprime q 2) (s : Nat) (hm : m = 2 ^ s) : Nat.Coprime q m := by
  subst hm; exact Nat.Coprime.pow_right s h

/-- a^(p-1) is 1 for each of the seven primes -/
def Fermat (p : Nat) : Prop := ∀ a, a % p ≠ 0 → a ^ (p - 1) % p = 1

theorem fermat_two {p g s : Nat} (hp : 1 < p) (hps : p - 1 = 2 ^ s) (hs : p - 1 < 2 ^ 64)
    (h1 : pm p 64 g (p - 1) 1 = 1) (h2 : pm p 64 g ((p - 1) / 2) 1 ≠ 1) : Fermat p := by
  have hi := pow_is hp hs h1
  refine fermat_of hp hi ?_
  have := order_full (p := p) (g := g) (N := p - 1) [2] (by omega) (by rw [hi, Nat.mod_eq_of_lt hp]) (by
    intro r hr
    rw [List.mem_singleton] at hr; subst hr
    exact ⟨sp2, by decide, pow_not hp (by omega) h2⟩) (by
    intro q hq
    exact cop2 (hq 2 (List.mem_singleton.2 rfl)) s hps)
  rw [Nat.mod_eq_of_lt hp] at this
  exact this
theorem fermat_three {p g s : Nat} (hp : 1 < p) (hps : p - 1 = 2 ^ s * 3) (hs : p - 1 < 2 ^ 64)
    (h1 : pm p 64 g (p - 1) 1 = 1) (h2 : pm p 64 g ((p - 1) / 2) 1 ≠ 1) (h3 : pm p 64 g ((p - 1) / 3) 1 ≠ 1) : Fermat p := by
  have hi := pow_is hp hs h1
  refine fermat_of hp hi ?_
  have := order_full (p := p) (g := g) (N := p - 1) [2, 3] (by omega) (by rw [hi, Nat.mod_eq_of_lt hp]) (by
    intro r hr
    simp only [List.mem_cons, List.not_mem_nil, or_false] at hr
    rcases hr with rfl | rfl
    · exact ⟨sp2, by decide, pow_not hp (by omega) h2⟩
    · exact ⟨sp3, by decide, pow_not hp (by omega) h3⟩) (by
    intro q hq
    rw [hps]
    exact Nat.Coprime.mul_right (Nat.Coprime.pow_right s (hq 2 (by simp))) (hq 3 (by simp)))
  rw [Nat.mod_eq_of_lt hp] at this
  exact this

theorem fermat17 : Fermat 17 := fermat_two (g := 3) (s := 4) (by decide) (by decide) (by decide) (by decide) (by decide)
theorem fermat257 : Fermat 257 := fermat_two (g := 3) (s := 8) (by decide) (by decide) (by decide) (by decide +kernel) (by decide +kernel)
theorem fermat65537 : Fermat 65537 := fermat_two (g := 3) (s := 16) (by decide) (by decide) (by decide) (by decide +kernel) (by decide +kernel)
theorem fermat97 : Fermat 97 := fermat_three (g := 5) (s := 5) (by decide) (by decide) (by decide) (by decide +kernel) (by decide +kernel) (by decide +kernel)
theorem fermat193 : Fermat 193 := fermat_three (g := 5) (s := 6) (by decide) (by decide) (by decide) (by decide +kernel) (by decide +kernel) (by decide +kernel)
theorem fermat12289 : Fermat 12289 := fermat_three (g := 11) (s := 12) (by decide) (by decide) (by decide) (by decide +kernel) (by decide +kernel) (by decide +kernel)

theorem fermat_six {p g s : Nat} (hp : 1 < p) (hps : p - 1 = 2 ^ s * 3 * 5 * 17 * 257 * 65537) (hs : p - 1 < 2 ^ 64)
    (h1 : pm p 64 g (p - 1) 1 = 1) (h2 : pm p 64 g ((p - 1) / 2) 1 ≠ 1) (h3 : pm p 64 g ((p - 1) / 3) 1 ≠ 1) (h5 : pm p 64 g ((p - 1) / 5) 1 ≠ 1)
    (h17 : pm p 64 g ((p - 1) / 17) 1 ≠ 1) (h257 : pm p 64 g ((p - 1) / 257) 1 ≠ 1) (h65537 : pm p 64 g ((p - 1) / 65537) 1 ≠ 1) : Fermat p := by
  have hi := pow_is hp hs h1
  refine fermat_of hp hi ?_
  have := order_full (p := p) (g := g) (N := p - 1) [2, 3, 5, 17, 257, 65537] (by omega) (by rw [hi, Nat.mod_eq_of_lt hp]) (by
    intro r hr
    simp only [List.mem_cons, List.not_mem_nil, or_false] at hr
    rcases hr with rfl | rfl | rfl | rfl | rfl | rfl
    · exact ⟨sp2, by decide, pow_not hp (by omega) h2⟩
    · exact ⟨sp3, by decide, pow_not hp (by omega) h3⟩
    · exact ⟨sp5, by decide, pow_not hp (by omega) h5⟩
    · exact ⟨sp17, by decide, pow_not hp (by omega) h17⟩
    · exact ⟨sp257, by decide, pow_not hp (by omega) h257⟩
    · exact ⟨sp65537, by decide, pow_not hp (by omega) h65537⟩) (by
    intro q hq
    rw [hps]
    exact (((((Nat.Coprime.pow_right s (hq 2 (by simp))).mul_right (hq 3 (by simp))).mul_right (hq 5 (by simp))).mul_right (hq 17 (by simp))).mul_right (hq 257 (by simp))).mul_right (hq 65537 (by simp)))
  rw [Nat.mod_eq_of_lt hp] at this
  exact this
theorem fermatBig : Fermat 18446744069414584321 := fermat_six (g := 7) (s := 32) (by decide) (by decide) (by decide) (by decide +kernel) (by decide +kernel) (by decide +kernel) (by decide +kernel) (by decide +kernel) (by decide +kernel) (by decide +kernel)

/-- the seven primes -/
def Known (p : Nat) : Prop := p = 17 ∨ p = 97 ∨ p = 193 ∨ p = 257 ∨ p = 12289 ∨ p = 65537 ∨ p = 18446744069414584321
theorem fermat_known {p : Nat} (h : Known p) : Fermat p := by
  rcases h with rfl | rfl | rfl | rfl | rfl | rfl | rfl
  · exact fermat17
  · exact fermat97
  · exact fermat193
  · exact fermat257
  · exact fermat12289
  · exact fermat65537
  · exact fermatBig
end Go.Proofs.Ytdcdaclkeocfpaa.Fm
