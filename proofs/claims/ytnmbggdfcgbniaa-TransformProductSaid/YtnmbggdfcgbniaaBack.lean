/- The iterator slices.Backward: a loop over it whose rounds are told which element comes, and which may write what is not the iterator's. -/
import Derived.Test.YtnmbggdfcgbniaaRefR
import Derived.RangeFuncNested
import Derived.RangeFuncBound
import Derived.RangeFuncCalls
import Derived.RangeFuncLeaves
import Derived.RangeFuncBox
import Derived.RangeFuncWrites
import Derived.Shelf.Abstract
import Derived.Shelf.RegionOpen
import Derived.OwnWalkIn
import Derived.TacticsInMore
import Derived.LoopNIn
import Derived.LoopIn
namespace Go.Proofs.Ytnmbggdfcgbniaa
open Go.RowKit Go.Shelf
attribute [local go_sem] Oper.semAt_some

/-- What the iterator reads: its box, and the elements of the slice in it. -/
def Seen (Bs : Nat) (v : Value) (N : Nat) (W : World) : Prop :=
  W.cell? ⟨Bs, 0, none⟩ = some v ∧ ∀ i, i < N → ∃ b o c u, v = .slice (some ⟨b, o, none⟩) N c ∧ W.cell? ⟨b, o + i, none⟩ = some (.int .u64 u)

/-- How the body of a round may be left. -/
def roundEnd (B : Nat) (I Ix : Nat → World → Prop) (k : Nat) (W : World) : Exit → Act → World → Prop
  | .normal, _, W' => KeepsFrom B W W' ∧ I (k + 1) W'
  | .ret, _, W' => KeepsFrom B W W' ∧ Ix k W'
  | _, _, _ => False

end Go.Proofs.Ytnmbggdfcgbniaa
