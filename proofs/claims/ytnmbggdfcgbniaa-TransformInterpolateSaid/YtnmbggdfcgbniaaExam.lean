/- The walks of the list of primes, of the choice of a prime, of the comparison of two lists, and of the examples that each statement checks. -/
import Derived.Test.YtnmbggdfcgbniaaRoot
namespace Go.Proofs.Ytnmbggdfcgbniaa
open Go.RowKit

theorem ex_root : RootOk 17 4 := ⟨by decide, by decide, ⟨2, rfl⟩, by decide⟩

/-- The prime that the reference selects for a number. -/
def prime (n : Int) : Int := if n % 7 == 0 then 17 else if n % 7 == 1 then 97 else if n % 7 == 2 then 193 else if n % 7 == 3 then 257 else if n % 7 == 4 then 12289 else if n % 7 == 5 then 65537 else 18446744069414584321
theorem prime_known (n : Int) : known (prime n) = true := by
  unfold prime
  repeat' split
  all_goals decide

def sevenPrimes : Array Value := #[.int .u64 17, .int .u64 97, .int .u64 193, .int .u64 257, .int .u64 12289, .int .u64 65537, .int .u64 18446744069414584321]

end Go.Proofs.Ytnmbggdfcgbniaa
