/- 'FieldAxioms' returns true for every number and every three numbers, and its arguments read afterwards as before.
  The frame: each argument opened (the array by its three cells); the walk by law_axioms; nothing that lay before the call has turned. -/
import Derived.Test.YtdgnlagoagpejaaRows
import Derived.WalkKit
import Derived.ProofKit
import Derived.OpenShut
import Derived.SizedLaws
import Derived.Laws.IdiomArrays
import Derived.Test.YtdgnlagoagpejaaLawF
namespace Go.Proofs.Ytdgnlagoagpejaa.fieldAxioms
open Go.ChangeShapes Go.WideShapes Go.ChangeAt Go.RowKit

theorem own : ownKnob Try.prog.godebug = none := by kernel_rfl
theorem laidOut : laidOutB Try.prog = true := by kernel_rfl
theorem cells_u64 : Try.prog.cellsOf 22 = 1 := by kernel_rfl
theorem cells_arr : Try.prog.cellsOf 51 = 3 := by kernel_rfl

/-- An argument that is an array of three numbers. -/
theorem view {H : Type} {enc : TypeId × Value → H} {W : World} {base fuel : Nat} {v : Value} {d : DataW H × List MemPlace}
    (ho : Value.okWide Try.prog W .any base 51 v) (hf : DataW.trod enc Try.prog W 0 (fun _ => true) true fuel 51 v.cells.toList = some d) :
    ∃ a b c, v = .agg #[.int .u64 a, .int .u64 b, .int .u64 c] ∧ (Lit.int .u64 a).wf = true ∧ (Lit.int .u64 b).wf = true ∧ (Lit.int .u64 c).wf = true := by
  unfold Value.okWide at ho
  rw [Try.underlying51] at ho
  obtain ⟨cs, rfl, hs, _⟩ := ho
  rw [cells_arr] at hs
  obtain ⟨l⟩ := cs
  match l, hs with
  | [c0, c1, c2], _ =>
  obtain ⟨y0, y1, y2, m, rfl, hy0, hy1, hy2⟩ := trod_array3 Try.underlying51 cells_u64 (by simpa [Value.cells] using hf)
  obtain ⟨k0, e0, rfl, hw0⟩ := DataW.trod_int Try.underlying22 hy0
  obtain ⟨k1, e1, rfl, hw1⟩ := DataW.trod_int Try.underlying22 hy1
  obtain ⟨k2, e2, rfl, hw2⟩ := DataW.trod_int Try.underlying22 hy2
  simp at e0 e1 e2
  subst e0 e1 e2
  exact ⟨k0, k1, k2, rfl, hw0, hw1, hw2⟩

set_option maxRecDepth 100000 in
theorem lifted (os : Os) (started : os.Started) (H : Type) (enc : TypeId × Value → H) :
    ReturnsInHanded {} Try.checked os 10 .any (Rows.fieldAxiomsSpec.pre6 enc Try.prog Try.f10 Rows.fieldAxiomsRow.domain false) (Rows.fieldAxiomsSpec.post enc Try.prog Try.f10 false true false false) := by
  refine returnsInHanded_of_change (C := Try.checked) own started (by kernel_rfl) Try.func10
    (ChangeSpec.witness6 (enc := enc) (C := Try.checked) false ⟨#[], #[.int .u8 0, .agg #[.int .u64 0, .int .u64 0, .int .u64 0]], []⟩ 8 (by kernel_rfl) (by kernel_rfl) (by kernel_rfl) (by kernel_rfl)) ?_
  intro W base args ds gs before hval0 hW hcnd _
  have hval : ∀ (j : Nat) t v, Try.f10.params[j]? = some t → args[j]? = some v → Value.okWide Try.prog W .any base t v := hval0
  have hW' := hW
  obtain ⟨p, q, hA0, hV, rfl, hfz, hnd⟩ := hW
  have hA : DataW.TrodAll enc Try.prog W 0 (fun _ => true) true Try.f10.params.toList args.toList ds p := hA0
  rw [Try.params10] at hA hval
  obtain ⟨v0, vs0, d0, ds0, p0, q0, hargs, rfl, rfl, h0, r0⟩ := trodAll_cons hA
  obtain ⟨v1, vs1, d1, ds1, p1, q1, rfl, rfl, rfl, h1, r1⟩ := trodAll_cons r0
  obtain ⟨rfl, rfl, rfl⟩ := trodAll_nil r1
  obtain rfl : args = #[v0, v1] := by cases args; simp_all
  obtain ⟨rfl, rfl⟩ := trodVars_none hV
  obtain ⟨a0, rfl, rfl, rfl, w0⟩ := open_int Try.underlying5 (hval 0 5 v0 rfl rfl) h0
  have h1k := h1
  obtain ⟨fa, hfa⟩ := h1
  obtain ⟨a, b, c, rfl, wa, wb, wc⟩ := view (hval 1 51 v1 rfl rfl) hfa
  clear hA0 hval0
  simp only [List.append_nil] at hW'
  have hlt : ∀ x ∈ p1, x.block < W.heap.size := fun x hx => by simpa using hW'.lt x (by simpa using hx)
  refine (law_axioms a0 a b c (bounds_u8 w0).1 (bounds_u8 w0).2 (bounds_u64 wa).1 (bounds_u64 wa).2 (bounds_u64 wb).1 (bounds_u64 wb).2 (bounds_u64 wc).1 (bounds_u64 wc).2 W).mono fun e W' h => ?_
  obtain ⟨rfl, hnw⟩ := h
  have hnx := hnw.b
  exact ⟨_, rfl, _, _, _, [], _, [], hW', trodAll_cons_mk (shut_bool Try.underlying4 _) trodAll_mk0,
    trodAll_cons_mk (shut_int Try.underlying5 w0) (trodAll_cons_mk (Below.trod laidOut (by kernel_rfl) (of_decide_eq_true (by kernel_rfl)) h1k hnx hlt) trodAll_mk0),
    rfl, hnx.frame _, fun h => by cases h⟩

theorem over : Rows.fieldAxiomsRow.holds Try.pinned (OpenSpec.ofChange Rows.fieldAxiomsSpec) :=
  OpenClaim.holds_of_wide 10 Try.f10 rfl rfl rfl rfl rfl rfl rfl ⟨rfl, rfl, rfl, rfl, rfl⟩ rfl rfl rfl rfl rfl (by kernel_rfl) Try.func10 (by kernel_rfl)
    (of_decide_eq_true (by kernel_rfl)) (by unfold Func.isWrapper; first | (rw [if_pos (by decide +kernel)]; kernel_rfl) | (rw [if_neg (by decide +kernel)]; exact ⟨rfl, rfl⟩))
    (fun os started H enc _ => lifted os started H enc)

/-- The statement. -/
theorem proved : Rows.FieldAxiomsSaid :=
  over
end Go.Proofs.Ytdgnlagoagpejaa.fieldAxioms
