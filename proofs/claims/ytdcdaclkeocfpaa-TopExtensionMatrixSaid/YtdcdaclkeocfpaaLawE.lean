/- The walk of the statement on the roots of unity. -/
import Derived.Test.YtdcdaclkeocfpaaLawC
namespace Go.Proofs.Ytdcdaclkeocfpaa
open Go.RowKit

theorem gen_half_of {p : Int} (q g e r : Nat) (hp : p = (q : Int)) (hg : gen p = (g : Int)) (he : ((p - 1) / 2).toNat = e) (hr : p - 1 = (r : Int)) (h1 : 1 < q) (h2 : e < 2 ^ 64) (h : Fm.pm q 64 g e 1 = r) :
    gen p ^ ((p - 1) / 2).toNat % p = p - 1 := by
  rw [hg, he, hr, hp, ← Fm.pow_is h1 h2 h]; simp
theorem gen_half {p : Int} (hk : known p = true) : gen p ^ ((p - 1) / 2).toNat % p = p - 1 := by
  rcases known_cases hk with h | h | h | h | h | h | h
  · exact gen_half_of 17 3 8 16 h (by rw [h]; rfl) (by rw [h]; rfl) (by rw [h]; rfl) (by decide) (by decide) (by decide +kernel)
  · exact gen_half_of 97 5 48 96 h (by rw [h]; rfl) (by rw [h]; rfl) (by rw [h]; rfl) (by decide) (by decide) (by decide +kernel)
  · exact gen_half_of 193 5 96 192 h (by rw [h]; rfl) (by rw [h]; rfl) (by rw [h]; rfl) (by decide) (by decide) (by decide +kernel)
  · exact gen_half_of 257 3 128 256 h (by rw [h]; rfl) (by rw [h]; rfl) (by rw [h]; rfl) (by decide) (by decide) (by decide +kernel)
  · exact gen_half_of 12289 11 6144 12288 h (by rw [h]; rfl) (by rw [h]; rfl) (by rw [h]; rfl) (by decide) (by decide) (by decide +kernel)
  · exact gen_half_of 65537 3 32768 65536 h (by rw [h]; rfl) (by rw [h]; rfl) (by rw [h]; rfl) (by decide) (by decide) (by decide +kernel)
  · exact gen_half_of 18446744069414584321 7 9223372034707292160 18446744069414584320 h (by rw [h]; rfl) (by rw [h]; rfl) (by rw [h]; rfl) (by decide) (by decide) (by decide +kernel)
theorem gen_small {p : Int} (hk : known p = true) : gen p % p ≠ 0 := by
  rcases known_cases hk with rfl | rfl | rfl | rfl | rfl | rfl | rfl <;> decide
theorem root_one {p : Int} (hk : known p = true) : pw p (gen p) ((p - 1) / 1) = 1 := by
  have hp := known_lo hk
  rw [pw, if_pos hk, Int.ediv_one]
  exact fermat_int hk (gen_lo p) (gen_small hk)
theorem root_half {p n : Int} (h : RootOk p n) (hn : 1 < n) : pw p (pw p (gen p) ((p - 1) / n)) (n / 2) = p - 1 := by
  obtain ⟨hk, h1, hp2, hd⟩ := h
  have hp := known_lo hk
  have hev : n % 2 = 0 := by
    apply Classical.byContradiction; intro hc
    have := (p2_odd (by omega : n % 2 = 1)).1 hp2
    omega
  have e1 : (p - 1) / n * (n / 2) = (p - 1) / 2 := by
    have h2 : n = 2 * (n / 2) := by omega
    have h3 : p - 1 = n * ((p - 1) / n) := by have := Int.mul_ediv_add_emod (p - 1) n; omega
    have h4 : p - 1 = 2 * ((p - 1) / n * (n / 2)) := by
      calc p - 1 = n * ((p - 1) / n) := h3
        _ = (2 * (n / 2)) * ((p - 1) / n) := by rw [← h2]
        _ = 2 * ((p - 1) / n * (n / 2)) := by rw [Int.mul_assoc, Int.mul_comm (n / 2)]
    omega
  have q1 : 0 ≤ (p - 1) / n := Int.ediv_nonneg (by omega) (by omega)
  have e2 : ((p - 1) / n).toNat * (n / 2).toNat = ((p - 1) / 2).toNat := by
    rw [← e1, Int.toNat_mul q1 (by omega)]
  rw [pw, pw, if_pos hk, if_pos hk, emod_pow, ← Int.pow_mul, e2]
  exact gen_half hk

end Go.Proofs.Ytdcdaclkeocfpaa
