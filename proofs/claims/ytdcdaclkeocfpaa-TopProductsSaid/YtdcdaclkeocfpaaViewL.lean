/- An argument that is a list of numbers, opened: Lst. -/
import Derived.WalkKit
import Derived.ProofKit
import Derived.OpenShut
import Derived.SizedLaws
import Derived.Carry
import Derived.Test.YtdcdaclkeocfpaaLst
namespace Go.Proofs.Ytdcdaclkeocfpaa
open Go.ChangeShapes Go.WideShapes Go.ChangeAt Go.RowKit

theorem cells_u64_1 : Try.prog.cellsOf 22 = 1 := by kernel_rfl
theorem view_lst {H : Type} {enc : TypeId × Value → H} {W : World} {fuel : Nat} {a0 : Option Addr} {len cap : Nat} {d : DataW H} {p : List MemPlace}
    (hf : DataW.trod enc Try.prog W 0 (fun _ => true) true fuel 36 (Value.slice a0 len cap).cells.toList = some (d, p)) :
    ∃ l : List Int, l.length ≤ 9223372036854775807 ∧ Lst W (Value.slice a0 len cap) l := by
  rcases open_ints Try.underlying36 Try.underlying22 cells_u64_1 hf with ⟨hcs, _⟩ | ⟨a, len', cap', zs, hcs, _, hl, hm, hz, _, hcell, hwz⟩
  · simp [Value.cells] at hcs
    obtain ⟨rfl, rfl, rfl⟩ := hcs
    exact ⟨[], by simp, Lst.nil W⟩
  · simp [Value.cells] at hcs
    obtain ⟨rfl, rfl, rfl⟩ := hcs
    simp only [if_true] at hz
    have e : (zs.take len).length = len := by rw [List.length_take]; omega
    refine ⟨zs.take len, by rw [e]; unfold maxLen at hm; omega, .inr ⟨a, cap, by rw [e]⟩, fun i hi => ?_, fun x hx => ?_, fun a' n c h => by cases h; exact hl⟩
    · rw [e] at hi
      obtain ⟨b, off, rfl, hc⟩ := ints_at hcell (by omega)
      refine ⟨b, off, cap, by rw [e], ?_⟩
      rw [hc i (by omega)]
      have hi2 : i < zs.length := by omega
      simp [List.getD, hi2]
    · obtain ⟨i, hi, rfl⟩ := List.getElem_of_mem (List.mem_of_mem_take hx)
      have h1 := range_u64 hwz i
      simp [hi] at h1
      exact ⟨h1.1, h1.2⟩
end Go.Proofs.Ytdcdaclkeocfpaa
