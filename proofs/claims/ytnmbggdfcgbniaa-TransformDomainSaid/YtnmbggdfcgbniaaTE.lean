/- What package transform returns on the document's examples; lists that are written out. -/
import Derived.Test.YtnmbggdfcgbniaaTD
namespace Go.Proofs.Ytnmbggdfcgbniaa
open Go.RowKit Go.BigFrame
open Classical

/-- A list that is read, and an error. -/
def PairL (w : World) (l : List Int) (er : Int) (e : Ending) (w' : World) : Prop := ∃ v, e = .returned (.tuple #[v, .int .i64 er]) ∧ Lst w' v l ∧ Below w.heap.size w w'
theorem pairL_of {w : World} {l : List Int} {er : Int} (e : Ending) (w' : World) (h : Pair w l er e w') : PairL w l er e w' := by
  obtain ⟨v, he, ho, hb⟩ := h
  exact ⟨v, he, ho.lst, hb⟩
/-- The least power of two that is at least n. -/
def fitsN (n : Nat) : Nat := if n ≤ 1 then 1 else 2 ^ ((n - 1).log2 + 1)
/-- The product, with all its coefficients. -/
def mulL (p : Int) (a b : List Int) : List Int := (List.range (a.length + b.length - 1)).map fun i => ival p (Po.cv (pf p a) (pf p b) i)
noncomputable def errM (p : Int) (a b : List Int) : Int := if known p = true then (if a.length = 0 ∨ b.length = 0 ∨ LenOk p (fitsN (a.length + b.length - 1)) then 0 else 3) else 7
noncomputable def resM (p : Int) (a b : List Int) : List Int := if errM p a b = 0 ∧ a.length ≠ 0 ∧ b.length ≠ 0 then mulL p a b else []

theorem len_17_4 : LenOk 17 4 := ⟨⟨by decide, by decide, ⟨2, rfl⟩, by decide⟩, by decide⟩
theorem len_17_2 : LenOk 17 2 := ⟨⟨by decide, by decide, ⟨1, rfl⟩, by decide⟩, by decide⟩
theorem ex_errE : errE 17 [1, 2, 0, 0] 1 4 = 0 := by rw [errE, if_pos (errD_ok len_17_4 (by decide)), if_pos (by decide)]
theorem ex_resE : resE 17 [1, 2, 0, 0] 1 4 = [3, 10, 16, 9] := by rw [resE, if_pos ex_errE]; decide +kernel
theorem ex_errI : errD 17 1 4 = 0 := errD_ok len_17_4 (by decide)
theorem ex_resI : resI 17 1 [3, 10, 16, 9] = [1, 2, 0, 0] := by
  have h : errD 17 1 (([3, 10, 16, 9] : List Int).length : Int) = 0 := errD_ok len_17_4 (by decide)
  rw [resI, if_pos h]; decide +kernel
theorem ex_errD : errD 17 3 2 = 0 := errD_ok len_17_2 (by decide)
theorem ex_resD : resD 17 3 2 = [3, 14] := by rw [resD, if_pos ex_errD]; decide +kernel
theorem ex_errM : errM 17 [1, 2] [3, 1] = 0 := by
  rw [errM, if_pos (by decide), if_pos (.inr (.inr len_17_4))]
theorem ex_resM : resM 17 [1, 2] [3, 1] = [3, 7, 2] := by
  rw [resM, if_pos ⟨ex_errM, by decide, by decide⟩]; decide +kernel

theorem lit_of {w : World} {b : Nat} (hb : b = w.heap.size) (l : List Int) (hl : l.length ≤ 1000000) (hu : Us l) {cs : Array Value} (hc : cs = (vs l).toArray) : Lst (w.alloc (.cells cs 22)) (.slice (some ⟨b, 0, none⟩) l.length l.length) l := by
  subst hb hc
  exact (own_of (base := w.heap.size) (Nat.le_refl _) (heap_alloc_new w _) hl hu).lst
theorem us_small {l : List Int} (h : l.all (fun x => decide (0 ≤ x) && decide (x ≤ 1000)) = true) : Us l := fun x hx => by
  have := List.all_eq_true.1 h x hx
  simp at this
  exact ⟨this.1, by omega⟩
theorem Lst.over {w : World} {v : Value} {l : List Int} (h : Lst w v l) (o : Obj) : Lst (w.alloc o) v l := h.hold (Below.made (Nat.le_refl _) (Below.refl _ _) o)
end Go.Proofs.Ytnmbggdfcgbniaa
