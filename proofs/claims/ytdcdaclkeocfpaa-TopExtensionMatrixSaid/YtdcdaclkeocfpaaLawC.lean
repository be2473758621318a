/- The walk of the statement on the inverse. -/
import Derived.Test.YtdcdaclkeocfpaaLawB
namespace Go.Proofs.Ytdcdaclkeocfpaa
open Go.RowKit

theorem not_known_pred {p : Int} (hk : known p = true) : known (p - 1) = false := by
  rcases known_cases hk with rfl | rfl | rfl | rfl | rfl | rfl | rfl <;> decide
theorem iv_unknown {p a : Int} (hk : known p = false) : iv p a = 0 := by rw [iv, pw, hk]; rfl
theorem ml_unknown {p a b : Int} (hk : known p = false) : ml p a b = 0 := by rw [ml, hk]; rfl

end Go.Proofs.Ytdcdaclkeocfpaa
