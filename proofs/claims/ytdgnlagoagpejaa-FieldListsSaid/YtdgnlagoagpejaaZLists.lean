/- 'FieldLists' returns true for every number and every two lists, and its arguments read afterwards as before.
  The frame: each argument opened; the walk by law_lists_big, law_lists_unknown, law_lists_known; nothing that lay before the call has turned. -/
import Derived.Test.YtdgnlagoagpejaaRows
import Derived.WalkKit
import Derived.ProofKit
import Derived.OpenShut
import Derived.SizedLaws
import Derived.Carry
import Derived.Test.YtdgnlagoagpejaaListF
namespace Go.Proofs.Ytdgnlagoagpejaa.fieldLists
open Go.ChangeShapes Go.WideShapes Go.ChangeAt Go.RowKit

theorem own : ownKnob Try.prog.godebug = none := by kernel_rfl
theorem laidOut : laidOutB Try.prog = true := by kernel_rfl
theorem cells_u64 : Try.prog.cellsOf 22 = 1 := by kernel_rfl

/-- An argument that is a list of numbers, nil or not: how long it is, what it holds. -/
theorem view {H : Type} {enc : TypeId × Value → H} {W : World} {fuel : Nat} {a0 : Option Addr} {len cap : Nat} {d : DataW H} {p : List MemPlace}
    (hf : DataW.trod enc Try.prog W 0 (fun _ => true) true fuel 33 (Value.slice a0 len cap).cells.toList = some (d, p)) :
    len ≤ 9223372036854775807 ∧ (len ≤ 200 → ∃ f, RowOf W (.slice a0 len cap) len f) ∧ (Value.slice a0 len cap = .slice none 0 0 ∨ ∃ a c, Value.slice a0 len cap = .slice (some a) len c) := by
  rcases open_ints Try.underlying33 Try.underlying22 cells_u64 hf with ⟨hcs, _⟩ | ⟨a, len', cap', zs, hcs, _, hl, hm, hz, _, hcell, hwz⟩
  · simp [Value.cells] at hcs
    obtain ⟨rfl, rfl, rfl⟩ := hcs
    exact ⟨by omega, fun _ => ⟨fun _ => 0, ⟨by omega, fun _ => ⟨by omega, by omega⟩, ⟨_, _, rfl⟩, fun i hi => by omega⟩⟩, .inl rfl⟩
  · simp [Value.cells] at hcs
    obtain ⟨rfl, rfl, rfl⟩ := hcs
    simp only [if_true] at hz
    have hm2 : len ≤ 9223372036854775807 := by unfold maxLen at hm; omega
    refine ⟨hm2, fun h200 => ⟨fun i => zs[i]?.getD 0, ⟨h200, fun i => range_u64 hwz i, ⟨_, _, rfl⟩, fun i hi => ?_⟩⟩, ?_⟩
    · obtain ⟨b, off, rfl, hc⟩ := ints_at hcell (by omega)
      refine ⟨b, off, cap, rfl, ?_⟩
      rw [hc i (by omega)]
      simp [List.getD]
    exact .inr ⟨_, _, rfl⟩

set_option maxRecDepth 100000 in
theorem lifted (os : Os) (started : os.Started) (H : Type) (enc : TypeId × Value → H) :
    ReturnsInHanded {} Try.checked os 8 .any (Rows.fieldListsSpec.pre6 enc Try.prog Try.f8 Rows.fieldListsRow.domain false) (Rows.fieldListsSpec.post enc Try.prog Try.f8 false true false false) := by
  refine returnsInHanded_of_change (C := Try.checked) own started (by kernel_rfl) Try.func8
    (ChangeSpec.witness6 (enc := enc) (C := Try.checked) false ⟨#[], #[.int .u64 0, .slice none 0 0, .slice none 0 0], []⟩ 8 (by kernel_rfl) (by kernel_rfl) (by kernel_rfl) (by kernel_rfl)) ?_
  intro W base args ds gs before hval0 hW hcnd _
  have hval : ∀ (j : Nat) t v, Try.f8.params[j]? = some t → args[j]? = some v → Value.okWide Try.prog W .any base t v := hval0
  have hW' := hW
  obtain ⟨p, q, hA0, hV, rfl, hfz, hnd⟩ := hW
  have hA : DataW.TrodAll enc Try.prog W 0 (fun _ => true) true Try.f8.params.toList args.toList ds p := hA0
  rw [Try.params8] at hA hval
  obtain ⟨v0, vs0, d0, ds0, p0, q0, hargs, rfl, rfl, h0, r0⟩ := trodAll_cons hA
  obtain ⟨v1, vs1, d1, ds1, p1, q1, rfl, rfl, rfl, h1, r1⟩ := trodAll_cons r0
  obtain ⟨v2, vs2, d2, ds2, p2, q2, rfl, rfl, rfl, h2, r2⟩ := trodAll_cons r1
  obtain ⟨rfl, rfl, rfl⟩ := trodAll_nil r2
  obtain rfl : args = #[v0, v1, v2] := by cases args; simp_all
  obtain ⟨rfl, rfl⟩ := trodVars_none hV
  obtain ⟨a0, rfl, rfl, rfl, w0⟩ := open_int Try.underlying22 (hval 0 22 v0 rfl rfl) h0
  obtain ⟨s1, l1, c1, rfl⟩ := okWide_slice Try.underlying33 (hval 1 33 v1 rfl rfl)
  obtain ⟨s2, l2, c2, rfl⟩ := okWide_slice Try.underlying33 (hval 2 33 v2 rfl rfl)
  have h1k := h1
  have h2k := h2
  obtain ⟨fa, hfa⟩ := h1
  obtain ⟨fb, hfb⟩ := h2
  clear hA0 hval0
  simp only [List.append_nil] at hW'
  have hlt : ∀ x ∈ p1 ++ p2, x.block < W.heap.size := fun x hx => by simpa using hW'.lt x (by simpa using hx)
  have fin : ∀ (e : Ending) (W' : World), (e = .returned (.bool true) ∧ Below W.heap.size W W') →
      ∃ v, e = Ending.returned v ∧ Rows.fieldListsSpec.post enc Try.checked.prog Try.f8 false true false false W #[.int .u64 a0, .slice s1 l1 c1, .slice s2 l2 c2] v W' := by
    rintro e W' ⟨rfl, hnx⟩
    exact ⟨_, rfl, _, _, _, [], _, [], hW', trodAll_cons_mk (shut_bool Try.underlying4 _) trodAll_mk0,
      trodAll_cons_mk (shut_int Try.underlying22 w0) (trodAll_cons_mk (Below.trod laidOut (by kernel_rfl) (of_decide_eq_true (by kernel_rfl)) h1k hnx (fun x hx => hlt x (by simp [hx]))) (trodAll_cons_mk (Below.trod laidOut (by kernel_rfl) (of_decide_eq_true (by kernel_rfl)) h2k hnx (fun x hx => hlt x (by simp [hx]))) trodAll_mk0)),
      rfl, hnx.frame _, fun h => by cases h⟩
  obtain ⟨m1, r1, v1⟩ := view hfa
  obtain ⟨m2, r2, v2⟩ := view hfb
  by_cases hb : 200 < l1 ∨ 200 < l2
  · exact (law_lists_big a0 s1 s2 l1 c1 l2 c2 hb m1 m2 W).mono fun e W' h => fin e W' ⟨h.1, h.2.b⟩
  · obtain ⟨f, hf⟩ := r1 (by omega)
    obtain ⟨g, hg⟩ := r2 (by omega)
    cases hk : known a0 with
    | false => exact (law_lists_unknown a0 _ _ l1 l2 f g hk W hf hg v1 v2).mono fin
    | true => exact (law_lists_known a0 _ _ l1 l2 f g hk W hf hg v1 v2).mono fin

theorem over : Rows.fieldListsRow.holds Try.pinned (OpenSpec.ofChange Rows.fieldListsSpec) :=
  OpenClaim.holds_of_wide 8 Try.f8 rfl rfl rfl rfl rfl rfl rfl ⟨rfl, rfl, rfl, rfl, rfl⟩ rfl rfl rfl rfl rfl (by kernel_rfl) Try.func8 (by kernel_rfl)
    (of_decide_eq_true (by kernel_rfl)) (by unfold Func.isWrapper; first | (rw [if_pos (by decide +kernel)]; kernel_rfl) | (rw [if_neg (by decide +kernel)]; exact ⟨rfl, rfl⟩))
    (fun os started H enc _ => lifted os started H enc)

/-- The statement. -/
theorem proved : Rows.FieldListsSaid :=
  over
end Go.Proofs.Ytdgnlagoagpejaa.fieldLists
