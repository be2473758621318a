/- An argument that is a polynomial and a domain, opened. -/
import Derived.Test.YtnmbggdfcgbniaaViewL
import Derived.Test.YtnmbggdfcgbniaaU64
namespace Go.Proofs.Ytnmbggdfcgbniaa
open Go.ChangeShapes Go.WideShapes Go.ChangeAt Go.RowKit

theorem cell_unum {W : World} {base : Nat} {v : Value} (h : Cell.okWide Try.prog W .any base 22 v) : ∃ n : Int, v = .int .u64 n ∧ U n := by
  unfold Cell.okWide Cell.ok at h
  rw [Try.underlying22] at h
  cases v <;> simp at h
  obtain ⟨rfl, h⟩ := h
  simp [IntKind.has, IntKind.min, IntKind.max, IntKind.signed, IntKind.bits] at h
  exact ⟨_, rfl, ⟨by omega, by omega⟩⟩
theorem cell_inum {W : World} {base : Nat} {v : Value} (h : Cell.okWide Try.prog W .any base 3 v) : ∃ n : Int, v = .int .i64 n ∧ -9223372036854775808 ≤ n ∧ n ≤ 9223372036854775807 := by
  unfold Cell.okWide Cell.ok at h
  rw [Try.underlying3] at h
  cases v <;> simp at h
  obtain ⟨rfl, h⟩ := h
  simp [IntKind.has, IntKind.min, IntKind.max, IntKind.signed, IntKind.bits] at h
  exact ⟨_, rfl, by omega, by omega⟩
theorem cell_slice {W : World} {base : Nat} {v : Value} (h : Cell.okWide Try.prog W .any base 23 v) : ∃ a n c, v = .slice a n c := by
  unfold Cell.okWide Cell.ok at h
  rw [Try.underlying23] at h
  cases v <;> simp at h
  exact ⟨_, _, _, rfl⟩
theorem cells_slice_1 : Try.prog.cellsOf 23 = 1 := by kernel_rfl
theorem view_case {W : World} {base : Nat} {v : Value} (ho : Value.okWide Try.prog W .any base 38 v) :
    ∃ (P : Int) (a : Option Addr) (n c : Nat) (S N : Int), v = .agg #[.int .u64 P, .slice a n c, .int .u64 S, .int .i64 N] ∧ U P ∧ U S ∧ -9223372036854775808 ≤ N ∧ N ≤ 9223372036854775807 := by
  unfold Value.okWide at ho
  rw [Try.underlying38] at ho
  obtain ⟨cs, rfl, hs, ts, ht, _, hc⟩ := ho
  rw [show Try.prog.cellsOf 38 = 4 from by kernel_rfl] at hs
  rw [show Try.prog.cellTypes Try.prog.depth 38 = some [22, 23, 22, 3] from by kernel_rfl] at ht
  obtain rfl := Option.some.inj ht
  obtain ⟨l⟩ := cs
  match l, hs, hc with
  | [c0, c1, c2, c3], _, hc =>
  obtain ⟨_, h0, g0⟩ := hc 0 c0 rfl
  obtain ⟨_, h1, g1⟩ := hc 1 c1 rfl
  obtain ⟨_, h2, g2⟩ := hc 2 c2 rfl
  obtain ⟨_, h3, g3⟩ := hc 3 c3 rfl
  obtain rfl := Option.some.inj h0
  obtain rfl := Option.some.inj h1
  obtain rfl := Option.some.inj h2
  obtain rfl := Option.some.inj h3
  obtain ⟨x0, rfl, u0⟩ := cell_unum g0
  obtain ⟨a, n, c, rfl⟩ := cell_slice g1
  obtain ⟨x2, rfl, u2⟩ := cell_unum g2
  obtain ⟨x3, rfl, u3, u4⟩ := cell_inum g3
  exact ⟨x0, a, n, c, x2, x3, rfl, u0, u2, u3, u4⟩
theorem cells_int_1 : Try.prog.cellsOf 3 = 1 := by kernel_rfl
theorem cells_num_1 : Try.prog.cellsOf 22 = 1 := by kernel_rfl
/-- The list of a case can be read. -/
theorem case_list {H : Type} {enc : TypeId × Value → H} {W : World} {fuel : Nat} {s0 s1 s2 s3 : Value} {d : DataW H} {p : List MemPlace}
    (hf : DataW.trod enc Try.prog W 0 (fun _ => true) true fuel 38 [s0, s1, s2, s3] = some (d, p)) :
    ∃ n d1 p1, DataW.trod enc Try.prog W 0 (fun _ => true) true n 23 [s1] = some (d1, p1) := by
  match fuel, hf with
  | 0, hf => simp [DataW.trod] at hf
  | n + 1, hf =>
    unfold DataW.trod at hf
    rw [Try.underlying38] at hf
    simp [cells_slice_1, cells_int_1, cells_num_1] at hf
    have h2 := hf.2
    match e1 : DataW.trod enc Try.prog W 0 (fun _ => true) true n 23 [s1] with
    | some y1 => exact ⟨n, y1.1, y1.2, e1⟩
    | none =>
      rw [e1] at h2
      match e0 : DataW.trod enc Try.prog W 0 (fun _ => true) true n 22 [s0] with
      | none => simp [e0] at h2
      | some y0 => simp [e0] at h2
end Go.Proofs.Ytnmbggdfcgbniaa
