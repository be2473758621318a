/- The walks of the reference's small functions on lists: the normal form, the degree, a coefficient. -/
import Derived.Test.YtnmbggdfcgbniaaLst
import Derived.Test.YtnmbggdfcgbniaaPolyB
namespace Go.Proofs.Ytnmbggdfcgbniaa
open Go.RowKit

/-- A new list is returned. -/
def Gives (w : World) (l : List Int) (e : Ending) (w' : World) : Prop := ∃ v, e = .returned v ∧ Own w' w.heap.size v l ∧ Below w.heap.size w w'
theorem cut0_len (l : List Int) : (cut0 l).length ≤ l.length := by
  unfold cut0
  rw [List.length_reverse]
  exact Nat.le_trans (List.dropWhile_sublist _).length_le (by simp)
def lenOf : Value → Nat
  | .slice _ n _ => n
  | _ => 0
theorem us_map {f : Int → Int} (l : List Int) (h : ∀ x, U (f x)) : Us (l.map f) := fun y hy => by
  obtain ⟨x, _, rfl⟩ := List.mem_map.1 hy; exact h x

end Go.Proofs.Ytnmbggdfcgbniaa
