/- An argument that is a matrix of numbers, opened: MatR. -/
import Derived.Test.YtdcdaclkeocfpaaViewL
import Derived.Test.YtdcdaclkeocfpaaMatA
import Derived.Deep.Matrix
namespace Go.Proofs.Ytdcdaclkeocfpaa
open Go.ChangeShapes Go.WideShapes Go.ChangeAt Go.RowKit

theorem cells_row_1 : Try.prog.cellsOf 36 = 1 := by kernel_rfl
theorem plain_at {w : World} {a : Addr} {v : Value} (h : w.cell? a = some v) : ∃ b off, a = ⟨b, off, none⟩ := by
  obtain ⟨b, off, spot⟩ := a
  have hspot : spot = none := by simpa using World.cell?_spot h
  subst hspot
  exact ⟨b, off, rfl⟩
theorem view_mat {H : Type} {enc : TypeId × Value → H} {W : World} {fuel : Nat} {a0 : Option Addr} {len cap : Nat} {d : DataW H} {p : List MemPlace}
    (hf : DataW.trod enc Try.prog W 0 (fun _ => true) true fuel 23 (Value.slice a0 len cap).cells.toList = some (d, p)) :
    ∃ M : List (List Int), M.length ≤ 9223372036854775807 ∧ (∀ i (h : i < M.length), M[i].length ≤ 9223372036854775807) ∧ MatR W (Value.slice a0 len cap) M := by
  rcases Go.Deep.open_int_rows Try.underlying23 Try.underlying36 Try.underlying22 cells_row_1 cells_u64_1 hf with ⟨hcs, _⟩ | ⟨a, len', cap', A, L, C, Z, hcs, _, hl, hm, _, hrow⟩
  · simp [Value.cells] at hcs
    obtain ⟨rfl, rfl, rfl⟩ := hcs
    exact ⟨[], by simp, fun i h => by simp at h, MatR.nil W⟩
  · simp [Value.cells] at hcs
    obtain ⟨rfl, rfl, rfl⟩ := hcs
    have row : ∀ r, r < len → ((Z r).take (L r)).length = L r ∧ Lst W (.slice (A r) (L r) (C r)) ((Z r).take (L r)) := fun r hr => by
      obtain ⟨_, hlc, hcm, hz, hwz, hnone, hcell⟩ := hrow r (by omega)
      have e : ((Z r).take (L r)).length = L r := by rw [List.length_take]; omega
      refine ⟨e, ?_, fun i hi => ?_, fun x hx => ?_, fun a' n' c' h => by cases h; exact hlc⟩
      · cases hA : A r with
        | none =>
          have h0 := hnone hA
          have hL0 : L r = 0 := by omega
          refine .inl ⟨by rw [hL0, h0], List.length_eq_zero_iff.1 (by omega)⟩
        | some a' => exact .inr ⟨a', C r, by rw [e]⟩
      · rw [e] at hi
        cases hA : A r with
        | none => have h0 := hnone hA; omega
        | some a' =>
          have hcl := (hcell a' hA).2
          obtain ⟨b, off, rfl, hc⟩ := ints_at (zs := Z r) (fun c hc => hcl c (by omega)) (by omega)
          refine ⟨b, off, C r, by rw [e], ?_⟩
          rw [hc i (by omega)]
          have hi2 : i < (Z r).length := by omega
          simp [List.getD, hi2]
      · obtain ⟨i, hi, rfl⟩ := List.getElem_of_mem (List.mem_of_mem_take hx)
        have h1 := range_u64 hwz i
        simp [hi] at h1
        exact ⟨h1.1, h1.2⟩
    have hlen : ((List.range len).map fun r => (Z r).take (L r)).length = len := by simp
    refine ⟨(List.range len).map fun r => (Z r).take (L r), by rw [hlen]; unfold maxLen at hm; omega, fun i hi => ?_, .inr ⟨a, cap, by rw [hlen]⟩, fun i hi => ?_⟩
    · rw [hlen] at hi
      simp only [List.getElem_map, List.getElem_range]
      obtain ⟨_, hlc, hcm, _⟩ := hrow i (by omega)
      rw [(row i hi).1]
      unfold maxLen at hcm; omega
    · rw [hlen] at hi
      obtain ⟨hc0, _⟩ := hrow 0 (by omega)
      obtain ⟨hci, _⟩ := hrow i (by omega)
      obtain ⟨b, off, rfl⟩ : ∃ b off, a = ⟨b, off, none⟩ := by
        obtain ⟨b, off, spot⟩ := a
        have hspot : spot = none := by simpa [Addr.add] using World.cell?_spot hc0
        subst hspot
        exact ⟨b, off, rfl⟩
      rw [Go.WideShapes.add_plain] at hci
      refine ⟨b, off, cap, _, by rw [hlen], hci, ?_⟩
      simp only [List.getElem_map, List.getElem_range]
      exact (row i hi).2
end Go.Proofs.Ytdcdaclkeocfpaa
