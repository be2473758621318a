/- The walks of the list of primes, of the choice of a prime, of the comparison of two lists, and of the examples that each statement checks. -/
import Derived.Test.YtdgnlagoagpejaaRoot
namespace Go.Proofs.Ytdgnlagoagpejaa
open Go.RowKit

theorem ex_root : RootOk 17 4 := ⟨by decide, by decide, ⟨2, rfl⟩, by decide⟩

set_option maxHeartbeats 4000000 in
theorem awake_any (w : World) : Calls Try.prog 12 #[] w fun e w' => e = .returned (.bool true) ∧ Nw w.heap.size w w' := by
  have e1 : pw 17 (gen 17) ((17 - 1) / 4) = 13 := by decide
  have e2 : ad 17 9 11 = 3 := by decide
  have e3 : sb 17 3 5 = 15 := by decide
  have e4 : ml 17 5 7 = 1 := by decide
  have e5 : iv 17 5 = 7 := by decide
  have e6 : ml 17 13 13 = 16 := by decide
  have e7 : sb 18446744069414584321 0 1 = 18446744069414584320 := by decide +kernel
  have e8 : ml 18446744069414584321 4294967296 4294967296 = 4294967295 := by decide +kernel
  have e9 : pw 18446744069414584321 2 96 = 18446744069414584320 := by decide +kernel
  have E1 := Lib.hid e1
  have E2 := Lib.hid e2
  have E3 := Lib.hid e3
  have E4 := Lib.hid e4
  have E5 := Lib.hid e5
  have E6 := Lib.hid e6
  have E7 := Lib.hid e7
  have E8 := Lib.hid e8
  have E9 := Lib.hid e9
  clear e1 e2 e3 e4 e5 e6 e7 e8 e9
  go_enter Try.func12, Try.ntmps12
  go_wp2_with fail
  refine (fRoot_yes 17 4 ex_root (by decide) _).mono ?_
  rintro e w1 ⟨rfl, hb1⟩
  rw [E1.out]
  have c1 : w1.cell? ⟨w.heap.size, 0, none⟩ = some (.int .u64 17) := hb1.hold (by go_simp)
  have d1 : w1.cell? ⟨w.heap.size + 1, 0, none⟩ = some (.int .u64 18446744069414584321) := hb1.hold (by go_simp)
  go_wp2_with fail
  refine (fAdd_any 17 9 11 (by decide) (by decide) (by decide) (by decide) _).mono ?_
  rintro e w2 ⟨rfl, hb2⟩
  rw [E2.out]
  have c2 := hb2.hold c1
  have d2 := hb2.hold d1
  clear c1 d1
  go_wp2_with fail
  refine (fSub_any 17 3 5 (by decide) (by decide) (by decide) (by decide) _).mono ?_
  rintro e w3 ⟨rfl, hb3⟩
  rw [E3.out]
  have c3 := hb3.hold c2
  have d3 := hb3.hold d2
  clear c2 d2
  go_wp2_with fail
  refine (fMul_any 17 5 7 (by decide) (by decide) (by decide) (by decide) _).mono ?_
  rintro e w4 ⟨rfl, hb4⟩
  rw [E4.out]
  have c4 := hb4.hold c3
  have d4 := hb4.hold d3
  clear c3 d3
  go_wp2_with fail
  refine (fInv_any 17 5 (by decide) (by decide) (by decide) (by decide) _).mono ?_
  rintro e w5 ⟨rfl, hb5⟩
  rw [E5.out]
  have c5 := hb5.hold c4
  have d5 := hb5.hold d4
  clear c4 d4
  go_wp2_with fail
  refine (fMul_any 17 13 13 (by decide) (by decide) (by decide) (by decide) _).mono ?_
  rintro e w6 ⟨rfl, hb6⟩
  rw [E6.out]
  have c6 := hb6.hold c5
  have d6 := hb6.hold d5
  clear c5 d5
  go_wp2_with fail
  refine (fNeg_any 18446744069414584321 1 (by decide) (by decide) _).mono ?_
  rintro e w7 ⟨rfl, hb7⟩
  rw [E7.out]
  have c7 := hb7.hold c6
  have d7 := hb7.hold d6
  clear c6 d6
  go_wp2_with fail
  refine (fMul_any 18446744069414584321 4294967296 4294967296 (by decide) (by decide) (by decide) (by decide) _).mono ?_
  rintro e w8 ⟨rfl, hb8⟩
  rw [E8.out]
  have c8 := hb8.hold c7
  have d8 := hb8.hold d7
  clear c7 d7
  go_wp2_with fail
  refine (fPow_any 18446744069414584321 2 96 (by decide) (by decide) (by decide) (by decide) _).mono ?_
  rintro e w9 ⟨rfl, hb9⟩
  rw [E9.out]
  have c9 := hb9.hold c8
  have d9 := hb9.hold d8
  clear c8 d8
  go_wp2_with fail
  go_ret
  exact ⟨rfl, by (repeat (first | exact Nw.refl _ _ | refine Nw.drew ?_ | refine Nw.drewN ?_ _ | refine Nw.made (Nat.le_refl _) ?_ _ _ | refine Nw.next (Nat.le_refl _) ?_ (by assumption)))⟩

/-- The prime that the reference selects for a number. -/
def prime (n : Int) : Int := if n % 7 == 0 then 17 else if n % 7 == 1 then 97 else if n % 7 == 2 then 193 else if n % 7 == 3 then 257 else if n % 7 == 4 then 12289 else if n % 7 == 5 then 65537 else 18446744069414584321
theorem prime_known (n : Int) : known (prime n) = true := by
  unfold prime
  repeat' split
  all_goals decide

def sevenPrimes : Array Value := #[.int .u64 17, .int .u64 97, .int .u64 193, .int .u64 257, .int .u64 12289, .int .u64 65537, .int .u64 18446744069414584321]

set_option maxHeartbeats 2000000 in
theorem rKnown_any (w : World) : Calls Try.prog 30 #[] w fun e w' => e = .returned (.slice (some ⟨w.heap.size, 0, none⟩) 7 7) ∧ w.alloc (.cells sevenPrimes 22) = w' := by
  go_enter Try.func30, Try.ntmps30
  go_wp2
  go_ret
  exact ⟨rfl, rfl⟩

set_option maxHeartbeats 2000000 in
theorem rPrime_any (n : Int) (h0 : 0 ≤ n) (h1 : n ≤ 255) (w : World) : Calls Try.prog 23 #[.int .u8 n] w fun e w' => e = .returned (.int .u64 (prime n)) ∧ Nw w.heap.size w w' := by
  have hc : n % 7 = 0 ∨ n % 7 = 1 ∨ n % 7 = 2 ∨ n % 7 = 3 ∨ n % 7 = 4 ∨ n % 7 = 5 ∨ n % 7 = 6 := by omega
  rcases hc with h | h | h | h | h | h | h
  all_goals
    go_enter Try.func23, Try.ntmps23
    go_wp2_with (go_at_call 30; refine (rKnown_any _).mono ?_; rintro e w' ⟨rfl, rfl⟩; unfold sevenPrimes)
    go_ret
    exact ⟨ret_int (by unfold prime; rw [h]; decide), by (repeat (first | exact Nw.refl _ _ | refine Nw.drew ?_ | refine Nw.drewN ?_ _ | refine Nw.made (Nat.le_refl _) ?_ _ _ | refine Nw.next (Nat.le_refl _) ?_ (by assumption)))⟩
end Go.Proofs.Ytdgnlagoagpejaa
