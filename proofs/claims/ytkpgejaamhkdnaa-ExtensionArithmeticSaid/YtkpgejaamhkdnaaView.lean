/- What an argument of the law is, cell by cell: the struct of a prime, a number and two elements; an element. -/
import Derived.Test.YtkpgejaamhkdnaaRows
import Derived.Test.YtkpgejaamhkdnaaU64
import Derived.WalkKit
import Derived.ProofKit
import Derived.OpenShut
import Derived.SizedLaws
namespace Go.Proofs.Ytkpgejaamhkdnaa
open Go.RowKit

theorem cell_u64 {W : World} {base : Nat} {v : Value} (h : Cell.okWide Try.prog W .any base 22 v) : ∃ n : Int, v = .int .u64 n ∧ U n := by
  unfold Cell.okWide Cell.ok at h
  rw [Try.underlying22] at h
  cases v <;> simp at h
  obtain ⟨rfl, h⟩ := h
  simp [IntKind.has, IntKind.min, IntKind.max, IntKind.signed, IntKind.bits] at h
  exact ⟨_, rfl, ⟨by omega, by omega⟩⟩

theorem cell_u8 {W : World} {base : Nat} {v : Value} (h : Cell.okWide Try.prog W .any base 5 v) : ∃ n : Int, v = .int .u8 n ∧ 0 ≤ n ∧ n ≤ 255 := by
  unfold Cell.okWide Cell.ok at h
  rw [Try.underlying5] at h
  cases v <;> simp at h
  obtain ⟨rfl, h⟩ := h
  simp [IntKind.has, IntKind.min, IntKind.max, IntKind.signed, IntKind.bits] at h
  exact ⟨_, rfl, by omega, by omega⟩

theorem view_pair {W : World} {base : Nat} {v : Value} (ho : Value.okWide Try.prog W .any base 23 v) : ∃ a b : Int, v = .agg #[.int .u64 a, .int .u64 b] ∧ U a ∧ U b := by
  unfold Value.okWide at ho
  rw [Try.underlying23] at ho
  obtain ⟨cs, rfl, hs, ts, ht, _, hc⟩ := ho
  rw [show Try.prog.cellsOf 23 = 2 from by kernel_rfl] at hs
  rw [show Try.prog.cellTypes Try.prog.depth 23 = some [22, 22] from by kernel_rfl] at ht
  obtain rfl := Option.some.inj ht
  obtain ⟨l⟩ := cs
  match l, hs, hc with
  | [c0, c1], _, hc =>
  obtain ⟨_, h0, g0⟩ := hc 0 c0 rfl
  obtain ⟨_, h1, g1⟩ := hc 1 c1 rfl
  obtain rfl := Option.some.inj h0
  obtain rfl := Option.some.inj h1
  obtain ⟨x0, rfl, u0⟩ := cell_u64 g0
  obtain ⟨x1, rfl, u1⟩ := cell_u64 g1
  exact ⟨x0, x1, rfl, u0, u1⟩

theorem view_two {W : World} {base : Nat} {v : Value} (ho : Value.okWide Try.prog W .any base 25 v) :
    ∃ P K a0 a1 b0 b1 : Int, v = .agg #[.int .u64 P, .int .u8 K, .int .u64 a0, .int .u64 a1, .int .u64 b0, .int .u64 b1] ∧ U P ∧ (0 ≤ K ∧ K ≤ 255) ∧ U a0 ∧ U a1 ∧ U b0 ∧ U b1 := by
  unfold Value.okWide at ho
  rw [Try.underlying25] at ho
  obtain ⟨cs, rfl, hs, ts, ht, _, hc⟩ := ho
  rw [show Try.prog.cellsOf 25 = 6 from by kernel_rfl] at hs
  rw [show Try.prog.cellTypes Try.prog.depth 25 = some [22, 5, 22, 22, 22, 22] from by kernel_rfl] at ht
  obtain rfl := Option.some.inj ht
  obtain ⟨l⟩ := cs
  match l, hs, hc with
  | [c0, c1, c2, c3, c4, c5], _, hc =>
  obtain ⟨_, h0, g0⟩ := hc 0 c0 rfl
  obtain ⟨_, h1, g1⟩ := hc 1 c1 rfl
  obtain ⟨_, h2, g2⟩ := hc 2 c2 rfl
  obtain ⟨_, h3, g3⟩ := hc 3 c3 rfl
  obtain ⟨_, h4, g4⟩ := hc 4 c4 rfl
  obtain ⟨_, h5, g5⟩ := hc 5 c5 rfl
  obtain rfl := Option.some.inj h0
  obtain rfl := Option.some.inj h1
  obtain rfl := Option.some.inj h2
  obtain rfl := Option.some.inj h3
  obtain rfl := Option.some.inj h4
  obtain rfl := Option.some.inj h5
  obtain ⟨x0, rfl, u0⟩ := cell_u64 g0
  obtain ⟨x1, rfl, k0, k1⟩ := cell_u8 g1
  obtain ⟨x2, rfl, u2⟩ := cell_u64 g2
  obtain ⟨x3, rfl, u3⟩ := cell_u64 g3
  obtain ⟨x4, rfl, u4⟩ := cell_u64 g4
  obtain ⟨x5, rfl, u5⟩ := cell_u64 g5
  exact ⟨x0, x1, x2, x3, x4, x5, rfl, u0, ⟨k0, k1⟩, u2, u3, u4, u5⟩
end Go.Proofs.Ytkpgejaamhkdnaa
