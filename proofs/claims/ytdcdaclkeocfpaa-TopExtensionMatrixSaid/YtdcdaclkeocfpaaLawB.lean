/- The walks of the comparison of two equal lists, and of the statement on the constants. -/
import Derived.Test.YtdcdaclkeocfpaaPows
namespace Go.Proofs.Ytdcdaclkeocfpaa
open Go.RowKit

theorem mid_hold {w : World} {n : Nat} {a : Addr} {v : Value} (h : w.cell? a = some v) : (w.drewN n).cell? a = some v := h

set_option maxHeartbeats 4000000 in
theorem same_true (n b1 o1 c1 b2 o2 c2 : Nat) (f : Nat → Int) (w : World) (hn : n ≤ 9223372036854775807)
    (h1 : ∀ i, i < n → w.cell? ⟨b1, o1 + i, none⟩ = some (.int .u64 (f i))) (h2 : ∀ i, i < n → w.cell? ⟨b2, o2 + i, none⟩ = some (.int .u64 (f i))) :
    Calls Try.prog 25 #[.slice (some ⟨b1, o1, none⟩) n c1, .slice (some ⟨b2, o2, none⟩) n c2] w fun e w' => e = .returned (.bool true) ∧ Nw w.heap.size w w' := by
  have H1 := Lib.hid h1
  have H2 := Lib.hid h2
  clear h1 h2
  go_enter Try.func25, Try.ntmps25
  go_wp2
  go_loopw [5] (fun iv wr => ∃ k m : Nat, iv = .int .i64 k ∧ k ≤ n ∧ wr = w.drewN m) (fun iv _ => n - (intOf iv).toNat)
  case atStart => exact ⟨0, 0, rfl, Nat.zero_le _, rfl⟩
  case round =>
    obtain ⟨k, m, rfl, hk, rfl⟩ := hrel
    by_cases hlt : k < n
    · have g1 := H1.out k hlt
      have g2 := H2.out k hlt
      have i0 : (0 : Int) ≤ (k : Int) := by omega
      have i1 : (k : Int) < (n : Int) := by omega
      go_wp2_with fail
      go_quiet (fail)
      go_wp2
      exact ⟨⟨k + 1, m + _, rfl, by omega, rfl⟩, by simp [intOf]; omega⟩
    · go_wp2
      go_ret
      exact ⟨rfl, by (repeat (first | exact Nw.refl _ _ | refine Nw.drew ?_ | refine Nw.drewN ?_ _ | refine Nw.made (Nat.le_refl _) ?_ _ _ | refine Nw.next (Nat.le_refl _) ?_ (by assumption)))⟩

def primeAt (i : Nat) : Int := [17, 97, 193, 257, 12289, 65537, 18446744069414584321].getD i 0
theorem seven_cells (w : World) (i : Nat) (hi : i < 7) : (w.alloc (.cells sevenPrimes 22)).cell? ⟨w.heap.size, 0 + i, none⟩ = some (.int .u64 (primeAt i)) := by
  unfold sevenPrimes
  have : i = 0 ∨ i = 1 ∨ i = 2 ∨ i = 3 ∨ i = 4 ∨ i = 5 ∨ i = 6 := by omega
  rcases this with rfl | rfl | rfl | rfl | rfl | rfl | rfl <;> (rw [World.cell?_alloc_at (hn := by simp)]; rfl)

/-- The two lists of primes are the same. -/
theorem same_known (w : World) :
    Calls Try.prog 25 #[.slice (some ⟨w.heap.size, 0, none⟩) 7 7, .slice (some ⟨w.heap.size + 1, 0, none⟩) 7 7] ((w.alloc (.cells sevenPrimes 22)).alloc (.cells sevenPrimes 22)) fun e w' => e = .returned (.bool true) ∧ Nw ((w.alloc (.cells sevenPrimes 22)).alloc (.cells sevenPrimes 22)).heap.size ((w.alloc (.cells sevenPrimes 22)).alloc (.cells sevenPrimes 22)) w' := by
  refine same_true 7 _ 0 7 _ 0 7 primeAt _ (by omega) ?_ ?_
  · intro i hi
    exact ((Nw.refl _ _).made (Nat.le_refl _) sevenPrimes 22).hold (seven_cells w i hi)
  · intro i hi
    have h := seven_cells (w.alloc (.cells sevenPrimes 22)) i hi
    simpa using h

/-! Fermat's theorem over Int, and what follows for the inverse. -/
theorem nat_of_known {p : Int} (h : known p = true) : ∃ q : Nat, p = (q : Int) ∧ Fm.Known q := by
  rcases known_cases h with rfl | rfl | rfl | rfl | rfl | rfl | rfl
  · exact ⟨17, rfl, .inl rfl⟩
  · exact ⟨97, rfl, .inr (.inl rfl)⟩
  · exact ⟨193, rfl, .inr (.inr (.inl rfl))⟩
  · exact ⟨257, rfl, .inr (.inr (.inr (.inl rfl)))⟩
  · exact ⟨12289, rfl, .inr (.inr (.inr (.inr (.inl rfl))))⟩
  · exact ⟨65537, rfl, .inr (.inr (.inr (.inr (.inr (.inl rfl)))))⟩
  · exact ⟨18446744069414584321, rfl, .inr (.inr (.inr (.inr (.inr (.inr rfl)))))⟩
theorem fermat_int {p a : Int} (hk : known p = true) (h0 : 0 ≤ a) (ha : a % p ≠ 0) : a ^ (p - 1).toNat % p = 1 := by
  obtain ⟨q, rfl, hq⟩ := nat_of_known hk
  obtain ⟨n, rfl⟩ := Int.eq_ofNat_of_zero_le h0
  have h := Fm.fermat_known hq n (by omega)
  rw [show ((q : Int) - 1).toNat = q - 1 from by omega]
  have e : ((n ^ (q - 1) % q : Nat) : Int) = (n : Int) ^ (q - 1) % (q : Int) := by simp
  rw [← e, h]; rfl
theorem iv_mul {p b : Int} (hk : known p = true) (h0 : 0 ≤ b) (hb : b % p ≠ 0) : iv p b * b % p = 1 := by
  have hp := known_lo hk
  rw [iv, pw, if_pos hk, Int.mul_emod, Int.emod_emod, ← Int.mul_emod, ← Int.pow_succ]
  rw [show (p - 2).toNat.succ = (p - 1).toNat from by omega]
  exact fermat_int hk h0 hb
theorem iv_zero {p b : Int} (hk : known p = true) (hb : b % p = 0) : iv p b = 0 := by
  have hp := known_lo hk
  rw [iv, pw, if_pos hk, ← emod_pow, hb]
  obtain ⟨m, hm⟩ : ∃ m, (p - 2).toNat = m + 1 := ⟨(p - 2).toNat - 1, by omega⟩
  rw [hm, Int.pow_succ, Int.mul_zero, Int.zero_emod]
end Go.Proofs.Ytdcdaclkeocfpaa
