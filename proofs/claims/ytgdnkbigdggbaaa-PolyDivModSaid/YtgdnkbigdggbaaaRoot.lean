/- The walks of the roots of unity: package field's and the reference's. -/
import Derived.Test.YtgdnkbigdggbaaaPows
namespace Go.Proofs.Ytgdnkbigdggbaaa
open Go.RowKit

theorem ret_root {a b : Int} (h : a = b) (c : Bool) : Ending.returned (.tuple #[.int .u64 a, .bool c]) = .returned (.tuple #[.int .u64 b, .bool c]) := by rw [h]
theorem gen_lo (p : Int) : 0 ≤ gen p := by unfold gen; split <;> (try split) <;> (try split) <;> (try split) <;> (try split) <;> (try split) <;> (try split) <;> omega
theorem gen_hi (p : Int) : gen p ≤ 11 := by unfold gen; split <;> (try split) <;> (try split) <;> (try split) <;> (try split) <;> (try split) <;> (try split) <;> omega

/-- n is a power of two. -/
def P2 (n : Int) : Prop := ∃ k : Nat, n = ((2 ^ k : Nat) : Int)
theorem p2_bits {n : Int} (h1 : 1 ≤ n) (h2 : n ≤ 9223372036854775807) : bits BinOp.and IntKind.i64 n (n - 1) = 0 ↔ P2 n := by
  obtain ⟨m, rfl⟩ := Int.eq_ofNat_of_zero_le (show 0 ≤ n by omega)
  have e1 : (BitVec.ofInt 64 (m : Int)).toNat = m := by rw [BitVec.ofInt_natCast, BitVec.toNat_ofNat]; exact Nat.mod_eq_of_lt (by omega)
  have e2 : (BitVec.ofInt 64 ((m : Int) - 1)).toNat = m - 1 := by
    rw [show ((m : Int) - 1) = ((m - 1 : Nat) : Int) from by omega, BitVec.ofInt_natCast, BitVec.toNat_ofNat]; exact Nat.mod_eq_of_lt (by omega)
  have e3 : bits BinOp.and IntKind.i64 (m : Int) ((m : Int) - 1) = ((m &&& (m - 1) : Nat) : Int) := by
    show IntKind.i64.wrap ((BitVec.ofInt 64 (m : Int) &&& BitVec.ofInt 64 ((m : Int) - 1)).toNat : Int) = _
    rw [BitVec.toNat_and, e1, e2, IntKind.wrap_i64]
    have : m &&& (m - 1) ≤ m := Nat.and_le_left
    omega
  rw [e3]
  have h := @Nat.and_sub_one_eq_zero_iff_isPowerOfTwo m (by omega)
  constructor
  · intro hz
    obtain ⟨k, hk⟩ := h.1 (by omega)
    exact ⟨k, by rw [hk]⟩
  · rintro ⟨k, hk⟩
    have := h.2 ⟨k, by omega⟩
    omega
theorem p2_half {k : Int} (h2 : k % 2 = 0) : P2 k ↔ P2 (k / 2) := by
  constructor
  · rintro ⟨j, hj⟩
    cases j with
    | zero => rw [Nat.pow_zero] at hj; omega
    | succ j => exact ⟨j, by rw [Nat.pow_succ] at hj; omega⟩
  · rintro ⟨j, hj⟩
    exact ⟨j + 1, by rw [Nat.pow_succ]; omega⟩
theorem p2_odd {k : Int} (h1 : k % 2 = 1) : P2 k ↔ k = 1 := by
  constructor
  · rintro ⟨j, hj⟩
    cases j with
    | zero => rw [Nat.pow_zero] at hj; omega
    | succ j => rw [Nat.pow_succ] at hj; omega
  · rintro rfl; exact ⟨0, rfl⟩

def RootOk (p n : Int) : Prop := known p = true ∧ 1 ≤ n ∧ P2 n ∧ (p - 1) % n = 0

end Go.Proofs.Ytgdnkbigdggbaaa
