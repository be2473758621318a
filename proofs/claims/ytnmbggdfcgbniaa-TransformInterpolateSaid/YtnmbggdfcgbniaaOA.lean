/- The walks of package poly's trim and Trim, and of slices.Clone. -/
import Derived.Test.YtnmbggdfcgbniaaOD
import Derived.Lib.SliceRun
import Derived.Deep.DeepCutAuto
import Derived.Deep.RegionHeld3
namespace Go.Proofs.Ytnmbggdfcgbniaa
open Go.RowKit

theorem empty_own (W : World) (base : Nat) (hb : base ≤ W.heap.size) : Own (W.alloc (.cells #[] 22)) base (.slice (some ⟨W.heap.size, 0, none⟩) 0 0) [] :=
  ⟨World.ownsRow_made W #[] 0 hb (by unfold maxLen; omega) rfl, us_nil⟩

/-- trim, in the memory of its argument. -/
def Trimmed (p : Int) (base : Nat) (v : Value) (l : List Int) (w : World) (e : Ending) (w' : World) : Prop :=
  ∃ v', e = .returned v' ∧ v'.ownBlock = v.ownBlock ∧ Own w' base v' (cut0 (l.map (rd p))) ∧ w.grownBy w' v.ownBlock

/-- The first k elements reduced. -/
def redK (p : Int) (l : List Int) (k : Nat) : List Int := (l.take k).map (rd p) ++ l.drop k
theorem redK_len (p : Int) (l : List Int) (k : Nat) : (redK p l k).length = l.length := by simp [redK]; omega
theorem redK_at {p : Int} {l : List Int} {k : Nat} (h : k < l.length) : (redK p l k)[k]? = some l[k] := by
  rw [redK, List.getElem?_append_right (by simp; omega)]
  simp [List.length_take, Nat.min_eq_left (Nat.le_of_lt h), h]
theorem redK_set {p : Int} {l : List Int} {k : Nat} (h : k < l.length) : (redK p l k).set k (rd p l[k]) = redK p l (k + 1) := by
  have h1 : ((l.take k).map (rd p)).length = k := by simp; omega
  rw [redK, List.set_append_right _ _ (by omega), h1, Nat.sub_self, redK, take_snoc h, List.map_append, List.append_assoc, List.drop_eq_getElem_cons h]
  rfl
theorem redK_end (p : Int) (l : List Int) : redK p l l.length = l.map (rd p) := by simp [redK]
theorem rd_rd (p x : Int) : rd p (rd p x) = rd p x := by
  by_cases hk : known p = true
  · rw [rd, if_pos hk, rd, if_pos hk, Int.emod_emod]
  · rw [rd, if_neg hk, rd, if_neg hk]
theorem cut0_take (l : List Int) : l.take (cut0 l).length = cut0 l := by
  refine snoc_induct (P := fun l => l.take (cut0 l).length = cut0 l) rfl ?_ l
  intro m x ih
  by_cases hx : x = 0
  · subst hx
    rw [cut0_snoc_zero, List.take_append_of_le_length (cut0_len m)]; exact ih
  · rw [cut0_snoc m hx, List.take_length]

end Go.Proofs.Ytnmbggdfcgbniaa
