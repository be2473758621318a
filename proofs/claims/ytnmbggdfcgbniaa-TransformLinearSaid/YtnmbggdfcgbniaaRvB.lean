/- The walk of math/bits Reverse64 at numbers of twelve bits. The walk of math/bits Reverse64. -/
import Derived.Test.YtnmbggdfcgbniaaRef
import Derived.Test.YtnmbggdfcgbniaaFft
import Derived.Test.YtnmbggdfcgbniaaOB
namespace Go.Proofs.Ytnmbggdfcgbniaa
open Go.RowKit

/-- Neighbours of s bits are exchanged (m: the mask of the lower ones, t: 2^s). -/
def swp (m t x : Int) : Int := bits .or .u64 (bits .and .u64 (x / t) m) (IntKind.u64.wrap (bits .and .u64 x m * t))
def rvA (x : Int) : Int := swp 6148914691236517205 2 x
def rvB (x : Int) : Int := swp 3689348814741910323 4 (rvA x)
def rvC (x : Int) : Int := swp 1085102592571150095 16 (rvB x)
def rvD (x : Int) : Int := swp 71777214294589695 256 (rvC x)
def rvE (x : Int) : Int := swp 281470681808895 65536 (rvD x)
def rvF (x : Int) : Int := bits .or .u64 (rvE x / 4294967296) (IntKind.u64.wrap (rvE x * 4294967296))
theorem rvF_small : ∀ a : Fin 64, ∀ b : Fin 64, rvF ((64 * a.val + b.val : Nat) : Int) = ((rev 12 (64 * a.val + b.val) * 4503599627370496 : Nat) : Int) := by decide +kernel
theorem rvF_at {i : Nat} (h : i < 4096) : rvF (i : Int) = ((rev 12 i * 4503599627370496 : Nat) : Int) := by
  have := rvF_small ⟨i / 64, by omega⟩ ⟨i % 64, by omega⟩
  simp only [show 64 * (i / 64) + i % 64 = i by omega] at this
  exact this
theorem rev_more : ∀ c b {j : Nat}, j < 2 ^ b → rev (b + c) j = 2 ^ c * rev b j
  | c, 0, j, h => by
    obtain rfl : j = 0 := by simp at h; exact h
    have : ∀ n, rev n 0 = 0 := fun n => by induction n with
      | zero => rfl
      | succ n ih => rw [rev, ih]; simp
    rw [this, this]; simp
  | c, b + 1, j, h => by
    rw [show b + 1 + c = (b + c) + 1 by omega, rev, rev, rev_more c b (by rw [Nat.pow_succ] at h; omega), Nat.pow_add, Nat.mul_add, ← Nat.mul_assoc, Nat.mul_comm (2 ^ b) (2 ^ c)]
/-- The b lowest bits, turned. -/
theorem rvF_shr {b i : Nat} (hb : b ≤ 12) (h : i < 2 ^ b) : rvF (i : Int) / 2 ^ (64 - b) = (rev b i : Int) := by
  have h12 : i < 4096 := Nat.lt_of_lt_of_le h (Nat.pow_le_pow_right (by decide) hb)
  obtain ⟨c, hc⟩ : ∃ c, 12 = b + c := ⟨12 - b, by omega⟩
  rw [rvF_at h12, hc, rev_more c b h]
  have e : 2 ^ c * rev b i * 4503599627370496 = rev b i * 2 ^ (64 - b) := by
    rw [show 64 - b = c + 52 by omega, Nat.pow_add, Nat.mul_comm (2 ^ c), Nat.mul_assoc]
  rw [e]
  have hp : (2 ^ (64 - b) : Int) = ((2 ^ (64 - b) : Nat) : Int) := by simp
  rw [hp]
  have : 0 < 2 ^ (64 - b) := Nat.two_pow_pos _
  rw [← Int.natCast_ediv, Nat.mul_div_cancel _ this]
end Go.Proofs.Ytnmbggdfcgbniaa

namespace Go.Proofs.Ytnmbggdfcgbniaa
open Go.RowKit Go.BigFrame

theorem swp_bd (m t x : Int) : 0 ≤ swp m t x ∧ swp m t x ≤ 18446744073709551615 := ⟨bits_lo_u64 _ _ _, bits_hi_u64 _ _ _⟩

set_option maxHeartbeats 4000000 in
theorem reverseBytes_u (x : Int) (w : World) :
    Calls Try.prog 61 #[.int .u64 x] w fun e w' => e = .returned (.int .u64 (bits .or .u64 (swp 281470681808895 65536 (swp 71777214294589695 256 x) / 4294967296) (IntKind.u64.wrap (swp 281470681808895 65536 (swp 71777214294589695 256 x) * 4294967296)))) ∧ w' = w := by
  obtain ⟨y, hy⟩ : ∃ y, y = swp 71777214294589695 256 x := ⟨_, rfl⟩
  obtain ⟨z, hz⟩ : ∃ z, z = swp 281470681808895 65536 y := ⟨_, rfl⟩
  have by0 := swp_bd 71777214294589695 256 x
  have bz0 := swp_bd 281470681808895 65536 y
  rw [← hy] at by0 ⊢
  rw [← hz] at bz0 ⊢
  obtain ⟨y0, y1⟩ := by0
  obtain ⟨z0, z1⟩ := bz0
  unfold swp at hy hz
  have HY := Lib.hid hy
  have HZ := Lib.hid hz
  clear hy hz
  go_enter Try.func61, Try.ntmps61
  go_upto_region 2 with fail
  rw [← HY.out]
  go_upto_region 3 with fail
  rw [← HZ.out]
  go_wp2
  go_ret
  exact ⟨rfl, rfl⟩

set_option maxHeartbeats 4000000 in
theorem reverse_u (x : Int) (w : World) :
    Calls Try.prog 55 #[.int .u64 x] w fun e w' => e = .returned (.int .u64 (rvF x)) ∧ w' = w := by
  obtain ⟨y, hy⟩ : ∃ y, y = rvA x := ⟨_, rfl⟩
  obtain ⟨z, hz⟩ : ∃ z, z = rvB x := ⟨_, rfl⟩
  obtain ⟨u, hu⟩ : ∃ u, u = rvC x := ⟨_, rfl⟩
  have hf : rvF x = bits .or .u64 (swp 281470681808895 65536 (swp 71777214294589695 256 u) / 4294967296) (IntKind.u64.wrap (swp 281470681808895 65536 (swp 71777214294589695 256 u) * 4294967296)) := by rw [hu]; rfl
  obtain ⟨y0, y1⟩ : 0 ≤ y ∧ y ≤ 18446744073709551615 := by rw [hy]; exact swp_bd _ _ _
  obtain ⟨z0, z1⟩ : 0 ≤ z ∧ z ≤ 18446744073709551615 := by rw [hz]; exact swp_bd _ _ _
  obtain ⟨u0, u1⟩ : 0 ≤ u ∧ u ≤ 18446744073709551615 := by rw [hu]; exact swp_bd _ _ _
  unfold rvC at hu
  rw [← hz] at hu
  unfold rvB at hz
  rw [← hy] at hz
  unfold rvA at hy
  unfold swp at hy hz hu
  rw [hf]
  have HF := Lib.hid hf
  have HY := Lib.hid hy
  have HZ := Lib.hid hz
  have HU := Lib.hid hu
  clear hf hy hz hu
  go_enter Try.func55, Try.ntmps55
  go_upto_region 2 with fail
  rw [← HY.out]
  go_upto_region 3 with fail
  rw [← HZ.out]
  go_upto_region 4 with fail
  rw [← HU.out]
  go_wp2_with (go_at_call 61; refine (reverseBytes_u u _).mono ?_; rintro e w' ⟨rfl, rfl⟩)
  go_ret
  exact ⟨rfl, rfl⟩
end Go.Proofs.Ytnmbggdfcgbniaa
