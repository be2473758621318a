/- The walks of the list of primes, of the choice of a prime, of the comparison of two lists, and of the examples that each statement checks. -/
import Derived.Test.YtkpgejaamhkdnaaRoot
namespace Go.Proofs.Ytkpgejaamhkdnaa
open Go.RowKit

theorem ex_root : RootOk 17 4 := ⟨by decide, by decide, ⟨2, rfl⟩, by decide⟩

/-- The prime that the reference selects for a number. -/
def prime (n : Int) : Int := if n % 7 == 0 then 17 else if n % 7 == 1 then 97 else if n % 7 == 2 then 193 else if n % 7 == 3 then 257 else if n % 7 == 4 then 12289 else if n % 7 == 5 then 65537 else 18446744069414584321
theorem prime_known (n : Int) : known (prime n) = true := by
  unfold prime
  repeat' split
  all_goals decide

def sevenPrimes : Array Value := #[.int .u64 17, .int .u64 97, .int .u64 193, .int .u64 257, .int .u64 12289, .int .u64 65537, .int .u64 18446744069414584321]

set_option maxHeartbeats 2000000 in
theorem rKnown_any (w : World) : Calls Try.prog 45 #[] w fun e w' => e = .returned (.slice (some ⟨w.heap.size, 0, none⟩) 7 7) ∧ w.alloc (.cells sevenPrimes 22) = w' := by
  go_enter Try.func45, Try.ntmps45
  go_wp2
  go_ret
  exact ⟨rfl, rfl⟩

set_option maxHeartbeats 2000000 in
theorem rPrime_any (n : Int) (h0 : 0 ≤ n) (h1 : n ≤ 255) (w : World) : Calls Try.prog 29 #[.int .u8 n] w fun e w' => e = .returned (.int .u64 (prime n)) ∧ Nw w.heap.size w w' := by
  have hc : n % 7 = 0 ∨ n % 7 = 1 ∨ n % 7 = 2 ∨ n % 7 = 3 ∨ n % 7 = 4 ∨ n % 7 = 5 ∨ n % 7 = 6 := by omega
  rcases hc with h | h | h | h | h | h | h
  all_goals
    go_enter Try.func29, Try.ntmps29
    go_wp2_with (go_at_call 45; refine (rKnown_any _).mono ?_; rintro e w' ⟨rfl, rfl⟩; unfold sevenPrimes)
    go_ret
    exact ⟨ret_int (by unfold prime; rw [h]; decide), by (repeat (first | exact Nw.refl _ _ | refine Nw.drew ?_ | refine Nw.drewN ?_ _ | refine Nw.made (Nat.le_refl _) ?_ _ _ | refine Nw.next (Nat.le_refl _) ?_ (by assumption)))⟩
end Go.Proofs.Ytkpgejaamhkdnaa
