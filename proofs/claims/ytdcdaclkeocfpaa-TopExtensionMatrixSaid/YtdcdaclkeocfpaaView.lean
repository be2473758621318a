/- What an argument of the law is, cell by cell: the struct of a prime, a number and two elements; an element. -/
import Derived.Test.YtdcdaclkeocfpaaRows
import Derived.Test.YtdcdaclkeocfpaaU64
import Derived.WalkKit
import Derived.ProofKit
import Derived.OpenShut
import Derived.SizedLaws
namespace Go.Proofs.Ytdcdaclkeocfpaa
open Go.RowKit

set_option maxRecDepth 100000 in
theorem cell_u64 {W : World} {base : Nat} {v : Value} (h : Cell.okWide Try.prog W .any base 22 v) : ∃ n : Int, v = .int .u64 n ∧ U n := by
  unfold Cell.okWide Cell.ok at h
  rw [Try.underlying22] at h
  cases v <;> simp at h
  obtain ⟨rfl, h⟩ := h
  simp [IntKind.has, IntKind.min, IntKind.max, IntKind.signed, IntKind.bits] at h
  exact ⟨_, rfl, ⟨by omega, by omega⟩⟩

set_option maxRecDepth 100000 in
theorem cell_u8 {W : World} {base : Nat} {v : Value} (h : Cell.okWide Try.prog W .any base 5 v) : ∃ n : Int, v = .int .u8 n ∧ 0 ≤ n ∧ n ≤ 255 := by
  unfold Cell.okWide Cell.ok at h
  rw [Try.underlying5] at h
  cases v <;> simp at h
  obtain ⟨rfl, h⟩ := h
  simp [IntKind.has, IntKind.min, IntKind.max, IntKind.signed, IntKind.bits] at h
  exact ⟨_, rfl, by omega, by omega⟩

set_option maxRecDepth 100000 in
theorem view_pair {W : World} {base : Nat} {v : Value} (ho : Value.okWide Try.prog W .any base 73 v) : ∃ a b : Int, v = .agg #[.int .u64 a, .int .u64 b] ∧ U a ∧ U b := by
  unfold Value.okWide at ho
  rw [Try.underlying73] at ho
  obtain ⟨cs, rfl, hs, ts, ht, _, hc⟩ := ho
  rw [show Try.prog.cellsOf 73 = 2 from by kernel_rfl] at hs
  rw [show Try.prog.cellTypes Try.prog.depth 73 = some [22, 22] from by kernel_rfl] at ht
  obtain rfl := Option.some.inj ht
  obtain ⟨l⟩ := cs
  match l, hs, hc with
  | [c0, c1], _, hc =>
  obtain ⟨_, h0, g0⟩ := hc 0 c0 rfl
  obtain ⟨_, h1, g1⟩ := hc 1 c1 rfl
  obtain rfl := Option.some.inj h0
  obtain rfl := Option.some.inj h1
  obtain ⟨x0, rfl, u0⟩ := cell_u64 g0
  obtain ⟨x1, rfl, u1⟩ := cell_u64 g1
  exact ⟨x0, x1, rfl, u0, u1⟩

end Go.Proofs.Ytdcdaclkeocfpaa
