/- The walks of the products: math/bits and package field's mul; what each returns. -/
import Derived.Test.YtnmbggdfcgbniaaBase
namespace Go.Proofs.Ytnmbggdfcgbniaa
open Go.RowKit

theorem and_mask (a : Int) (h0 : 0 ≤ a) (h1 : a ≤ 18446744073709551615) : bits .and .u64 a 4294967295 = a % 4294967296 := by
  have h := Mul64.maskN a.toNat (by omega)
  rw [Int.toNat_of_nonneg h0] at h
  rw [h]; omega

theorem call_sub (x y d b : Int) (hx : 0 ≤ x) (hy : 0 ≤ y) (hd : d = (x + 18446744073709551616 - y) % 18446744073709551616) (hb : b = if x < y then 1 else 0) (hy' : y ≤ 18446744073709551615) (w : World) :
    (callFunc 59 #[.int .u64 x, .int .u64 y, .int .u64 0]).run Try.prog w =
      .ok (.value (.tuple #[.int .u64 d, .int .u64 b])) w := by
  obtain ⟨X, rfl⟩ := Int.eq_ofNat_of_zero_le hx
  obtain ⟨Y, rfl⟩ := Int.eq_ofNat_of_zero_le hy
  rw [run_callFunc_extern Try.func59 (by kernel_rfl) (by kernel_rfl) (by kernel_rfl) (e := sub64Entry) (by kernel_rfl)]
  have h := run_sub64 (P := Try.prog) X Y 0 (by omega) w
  rw [show ((0 : Nat) : Int) = 0 from rfl] at h
  rw [h]
  have e1 : (((X + 18446744073709551616 - Y - 0) % 18446744073709551616 : Nat) : Int) = d := by omega
  have e2 : ((if X < Y + 0 then 1 else 0 : Nat) : Int) = b := by
    rw [hb]; by_cases h : X < Y
    · rw [if_pos (by omega), if_pos (by omega)]; rfl
    · rw [if_neg (by omega), if_neg (by omega)]; rfl
  rw [e1, e2]
  rfl

theorem call_add (x y s c : Int) (hx : 0 ≤ x) (hy : 0 ≤ y) (hs : s = (x + y) % 18446744073709551616) (hc : c = (x + y) / 18446744073709551616) (w : World) :
    (callFunc 60 #[.int .u64 x, .int .u64 y, .int .u64 0]).run Try.prog w =
      .ok (.value (.tuple #[.int .u64 s, .int .u64 c])) w := by
  rw [run_callFunc_extern Try.func60 (by kernel_rfl) (by kernel_rfl) (by kernel_rfl) (e := add64Entry) (by kernel_rfl), run_add64 x y 0 hx hy (by omega) (by omega)]
  rw [Int.add_zero, ← hs, ← hc]
  rfl

set_option maxHeartbeats 1000000 in
theorem mul64_nat (x y : Nat) (hx : x < 18446744073709551616) (hy : y < 18446744073709551616) (w : World) :
    Calls Try.prog 39 #[.int .u64 x, .int .u64 y] w fun e w' => e = .returned (.tuple #[.int .u64 ((x * y / 18446744073709551616 : Nat) : Int), .int .u64 ((x * y % 18446744073709551616 : Nat) : Int)]) ∧ w = w' := by
  obtain ⟨bd, bt, bw, hhi⟩ := Lib.mul64_hi x y hx hy
  have ba := Lib.half_mul_le (a := x / 4294967296) (b := y / 4294967296) (by omega) (by omega)
  have bb := Lib.half_mul_le (a := x / 4294967296) (b := y % 4294967296) (by omega) (by omega)
  have bc := Lib.half_mul_le (a := x % 4294967296) (b := y / 4294967296) (by omega) (by omega)
  have ba' : x / 4294967296 * (y / 4294967296) < 18446744073709551616 := by omega
  have bb' : x / 4294967296 * (y % 4294967296) < 18446744073709551616 := by omega
  have bc' : x % 4294967296 * (y / 4294967296) < 18446744073709551616 := by omega
  have bh1 : x / 4294967296 * (y / 4294967296) + (x / 4294967296 * (y % 4294967296) + x % 4294967296 * (y % 4294967296) / 4294967296) / 4294967296 < 18446744073709551616 := by omega
  have bh : x / 4294967296 * (y / 4294967296) + (x / 4294967296 * (y % 4294967296) + x % 4294967296 * (y % 4294967296) / 4294967296) / 4294967296 + ((x / 4294967296 * (y % 4294967296) + x % 4294967296 * (y % 4294967296) / 4294967296) % 4294967296 + x % 4294967296 * (y / 4294967296)) / 4294967296 < 18446744073709551616 := by omega
  go_enter Try.func39, Try.ntmps39
  go_wp2
  simp only [Mul64.maskN x hx, Mul64.maskN y hy, Mul64.divN, Mul64.mulN, Mul64.addN, Mul64.wrapN _ bd, Mul64.wrapN _ bb', Mul64.wrapN _ bt, Mul64.maskN _ bt, Mul64.wrapN _ bc', Mul64.wrapN _ bw, Mul64.wrapN _ ba', Mul64.wrapN _ bh1, Mul64.wrapN _ bh, Mul64.wrapM (x * y)]
  rw [hhi]
  go_ret2
  exact ⟨rfl, rfl⟩

theorem mul64_any (x y : Int) (hx : 0 ≤ x) (hx' : x ≤ 18446744073709551615) (hy : 0 ≤ y) (hy' : y ≤ 18446744073709551615) (w : World) :
    Calls Try.prog 39 #[.int .u64 x, .int .u64 y] w fun e w' => e = .returned (.tuple #[.int .u64 (x * y / 18446744073709551616), .int .u64 (x * y % 18446744073709551616)]) ∧ w = w' := by
  obtain ⟨X, rfl⟩ := Int.eq_ofNat_of_zero_le hx
  obtain ⟨Y, rfl⟩ := Int.eq_ofNat_of_zero_le hy
  have h := mul64_nat X Y (by omega) (by omega) w
  simpa using h

theorem ret_int {k : IntKind} {a b : Int} (h : a = b) : Ending.returned (.int k a) = .returned (.int k b) := by rw [h]

set_option maxHeartbeats 1000000 in
theorem reduceBig_any (x y : Int) (hx : 0 ≤ x) (hx' : x ≤ 18446744073709551615) (hy : 0 ≤ y) (hy' : y ≤ 18446744073709551615) (w : World) :
    Calls Try.prog 54 #[.int .u64 x, .int .u64 y] w fun e w' => e = .returned (.int .u64 ((x * 18446744073709551616 + y) % 18446744069414584321)) ∧ w = w' := by
  have hand := and_mask x hx hx'
  have g0 : 0 ≤ x / 4294967296 := by omega
  have g1 : x / 4294967296 ≤ 4294967295 := by omega
  have g2 : 0 ≤ x % 4294967296 := by omega
  have g3 : x % 4294967296 ≤ 4294967295 := by omega
  by_cases h1 : y < x / 4294967296
  · have hsub := fun w => call_sub y (x / 4294967296) (y - x / 4294967296 + 18446744073709551616) 1 (by omega) (by omega) (by omega) (by rw [if_pos h1]) (by omega) w
    by_cases h2 : y - x / 4294967296 + 18446744073709551616 - 4294967295 + x % 4294967296 * 4294967295 < 18446744073709551616
    · have hadd := fun w => call_add (y - x / 4294967296 + 18446744073709551616 - 4294967295) (x % 4294967296 * 4294967295) (y - x / 4294967296 + 18446744073709551616 - 4294967295 + x % 4294967296 * 4294967295) 0 (by omega) (by omega) (by omega) (by omega) w
      by_cases h3 : 18446744069414584321 ≤ y - x / 4294967296 + 18446744073709551616 - 4294967295 + x % 4294967296 * 4294967295
      all_goals
        go_enter Try.func54, Try.ntmps54
        go_wp2_with fail
        go_ret
        exact ⟨ret_int (by omega), rfl⟩
    · have hadd := fun w => call_add (y - x / 4294967296 + 18446744073709551616 - 4294967295) (x % 4294967296 * 4294967295) (y - x / 4294967296 + 18446744073709551616 - 4294967295 + x % 4294967296 * 4294967295 - 18446744073709551616) 1 (by omega) (by omega) (by omega) (by omega) w
      by_cases h3 : 18446744069414584321 ≤ y - x / 4294967296 + 18446744073709551616 - 4294967295 + x % 4294967296 * 4294967295 - 18446744073709551616 + 4294967295
      all_goals
        go_enter Try.func54, Try.ntmps54
        go_wp2_with fail
        go_ret
        exact ⟨ret_int (by omega), rfl⟩
  · have hsub := fun w => call_sub y (x / 4294967296) (y - x / 4294967296) 0 (by omega) (by omega) (by omega) (by rw [if_neg h1]) (by omega) w
    by_cases h2 : y - x / 4294967296 + x % 4294967296 * 4294967295 < 18446744073709551616
    · have hadd := fun w => call_add (y - x / 4294967296) (x % 4294967296 * 4294967295) (y - x / 4294967296 + x % 4294967296 * 4294967295) 0 (by omega) (by omega) (by omega) (by omega) w
      by_cases h3 : 18446744069414584321 ≤ y - x / 4294967296 + x % 4294967296 * 4294967295
      all_goals
        go_enter Try.func54, Try.ntmps54
        go_wp2_with fail
        go_ret
        exact ⟨ret_int (by omega), rfl⟩
    · have hadd := fun w => call_add (y - x / 4294967296) (x % 4294967296 * 4294967295) (y - x / 4294967296 + x % 4294967296 * 4294967295 - 18446744073709551616) 1 (by omega) (by omega) (by omega) (by omega) w
      by_cases h3 : 18446744069414584321 ≤ y - x / 4294967296 + x % 4294967296 * 4294967295 - 18446744073709551616 + 4294967295
      all_goals
        go_enter Try.func54, Try.ntmps54
        go_wp2_with fail
        go_ret
        exact ⟨ret_int (by omega), rfl⟩

/-! package field's mul, for reduced numbers -/
theorem prod_lo {a b : Int} (ha : 0 ≤ a) (hb : 0 ≤ b) : 0 ≤ a * b := Int.mul_nonneg ha hb
theorem prod_hi {p a b : Int} (ha : 0 ≤ a) (ha' : a < p) (hb' : b < p) : a * b < p * p := by
  have h1 : a * b ≤ a * p := Int.mul_le_mul_of_nonneg_left (by omega) ha
  have h2 : a * p < p * p := Int.mul_lt_mul_of_pos_right ha' (by omega)
  omega

theorem known_big {p : Int} (h : known p = true) : p = 18446744069414584321 ∨ p ≤ 65537 := by have := known_cases h; omega

set_option maxHeartbeats 1000000 in
theorem mul_small (p a b : Int) (hk : known p = true) (ha : 0 ≤ a) (ha' : a < p) (hb : 0 ≤ b) (hb' : b < p) (w : World) :
    Calls Try.prog 44 #[.agg #[.int .u64 p], .int .u64 a, .int .u64 b] w fun e w' => e = .returned (.int .u64 (a * b % p)) ∧ Nw w.heap.size w w' := by
  have hpl := known_lo hk
  have hph := known_hi hk
  have hlo := prod_lo ha hb
  have hhi := prod_hi ha ha' hb'
  rcases known_big hk with rfl | hs
  · clear hk
    go_enter Try.func44, Try.ntmps44
    go_wp2_with (first
      | (go_at_call 39; refine (mul64_any _ _ (by omega) (by omega) (by omega) (by omega) _).mono ?_; rintro e w' ⟨rfl, rfl⟩)
      | (go_at_call 54; refine (reduceBig_any _ _ (by omega) (by omega) (by omega) (by omega) _).mono ?_; rintro e w' ⟨rfl, rfl⟩))
    go_ret
    exact ⟨ret_int (by omega), (Nw.refl _ _).alloc (Nat.le_refl _) _ _⟩
  · clear hk
    have hne : (p == 18446744069414584321) = false := by simp; omega
    go_enter Try.func44, Try.ntmps44
    go_wp2_with (first
      | (go_at_call 39; refine (mul64_any _ _ (by omega) (by omega) (by omega) (by omega) _).mono ?_; rintro e w' ⟨rfl, rfl⟩))
    go_ret
    have hs2 : p * p ≤ 65537 * 65537 := Int.mul_le_mul hs hs (by omega) (by omega)
    exact ⟨ret_int (by rw [Int.emod_eq_of_lt (a := a * b) (b := 18446744073709551616) (by omega) (by omega)]), (Nw.refl _ _).alloc (Nat.le_refl _) _ _⟩
end Go.Proofs.Ytnmbggdfcgbniaa
