/- An argument that is an array of two lists of numbers, opened. -/
import Derived.Test.YtgdnkbigdggbaaaViewL
namespace Go.Proofs.Ytgdnkbigdggbaaa
open Go.ChangeShapes Go.WideShapes Go.ChangeAt Go.RowKit

theorem cell_list {W : World} {base : Nat} {v : Value} (h : Cell.okWide Try.prog W .any base 23 v) : ∃ a n c, v = .slice a n c := by
  unfold Cell.okWide Cell.ok at h
  rw [Try.underlying23] at h
  cases v <;> simp at h
  exact ⟨_, _, _, rfl⟩
theorem view_lists {W : World} {base : Nat} {v : Value} (ho : Value.okWide Try.prog W .any base 49 v) : ∃ a n c b m d, v = .agg #[.slice a n c, .slice b m d] := by
  unfold Value.okWide at ho
  rw [Try.underlying49] at ho
  obtain ⟨cs, rfl, hs, ts, ht, _, hc⟩ := ho
  rw [show Try.prog.cellsOf 49 = 2 from by kernel_rfl] at hs
  rw [show Try.prog.cellTypes Try.prog.depth 49 = some [23, 23] from by kernel_rfl] at ht
  obtain rfl := Option.some.inj ht
  obtain ⟨l⟩ := cs
  match l, hs, hc with
  | [c0, c1], _, hc =>
  obtain ⟨_, h0, g0⟩ := hc 0 c0 rfl
  obtain ⟨_, h1, g1⟩ := hc 1 c1 rfl
  obtain rfl := Option.some.inj h0
  obtain rfl := Option.some.inj h1
  obtain ⟨a, n, c, rfl⟩ := cell_list g0
  obtain ⟨b, m, d, rfl⟩ := cell_list g1
  exact ⟨a, n, c, b, m, d, rfl⟩
theorem cells_list_1 : Try.prog.cellsOf 23 = 1 := by kernel_rfl
/-- Both lists can be read. -/
theorem both_lists {H : Type} {enc : TypeId × Value → H} {W : World} {fuel : Nat} {s0 s1 : Value} {d : DataW H} {p : List MemPlace}
    (hf : DataW.trod enc Try.prog W 0 (fun _ => true) true fuel 49 [s0, s1] = some (d, p)) :
    ∃ n d0 p0 d1 p1, DataW.trod enc Try.prog W 0 (fun _ => true) true n 23 [s0] = some (d0, p0) ∧ DataW.trod enc Try.prog W 0 (fun _ => true) true n 23 [s1] = some (d1, p1) := by
  match fuel, hf with
  | 0, hf => simp [DataW.trod] at hf
  | n + 1, hf =>
    unfold DataW.trod at hf
    rw [Try.underlying49] at hf
    simp [show List.range 2 = [0, 1] from rfl, cells_list_1] at hf
    have h2 := hf.2
    match e0 : DataW.trod enc Try.prog W 0 (fun _ => true) true n 23 [s0], e1 : DataW.trod enc Try.prog W 0 (fun _ => true) true n 23 [s1] with
    | some y0, some y1 => exact ⟨n, y0.1, y0.2, y1.1, y1.2, e0, e1⟩
    | none, _ => simp [e0] at h2
    | some y0, none => simp [e0, e1] at h2
end Go.Proofs.Ytgdnkbigdggbaaa
