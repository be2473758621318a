/- Whether two pairs of numbers are equal. -/
import Derived.Test.YtkpgejaamhkdnaaBase
namespace Go.Proofs.Ytkpgejaamhkdnaa
open Go.RowKit

theorem eq_pair (a b c d : Int) (w : World) : (Op.equalIn 10000 23 (.agg #[.int .u64 a, .int .u64 b]) (.agg #[.int .u64 c, .int .u64 d])).run Try.prog w = .ok (a == c && b == d) w := by
  have hu := Try.underlying23
  have hv := Try.underlying22
  show (Op.equalIn (9999 + 1) 23 _ _).run Try.prog w = _
  unfold Op.equalIn
  simp only [Sem.run_bind, run_underlying hu, Result.andThen_ok]
  rw [show ((sizeOf 22).run Try.prog w) = .ok 1 w from by kernel_rfl]
  have hg : ∀ w, (isAgg 22).run Try.prog w = .ok false w := fun w => by kernel_rfl
  have hi : ∀ (x y : Int) (w : World), (Op.equalIn 9999 22 (.int .u64 x) (.int .u64 y)).run Try.prog w = .ok (x == y) w := fun x y w => run_equalIn_int w 9998 22 .u64 .u64 x y hv
  simp only [Result.andThen_ok]
  simp [go_sem, show List.range' 0 2 = [0, 1] from rfl, hg, hi]
  by_cases h1 : a = c
  · by_cases h2 : b = d
    · simp [h1, h2, go_sem]
    · simp [h1, h2, go_sem]
  · simp [h1, go_sem]
end Go.Proofs.Ytkpgejaamhkdnaa
