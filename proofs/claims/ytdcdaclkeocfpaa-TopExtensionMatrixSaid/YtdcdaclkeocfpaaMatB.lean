/- A list of rows of the call's own, whose rows lie in older memory; append onto it. -/
import Derived.Test.YtdcdaclkeocfpaaMatA
namespace Go.Proofs.Ytdcdaclkeocfpaa
open Go.RowKit

/-- The value v owns the list of rows; the rows themselves lie in memory older than 'base'. -/
structure OutR (w : World) (base : Nat) (v : Value) (rs : Nat → Value) (M : List (List Int)) : Prop where
  outer : w.ownsRow base 36 1 v M.length (rowsOf rs M.length)
  row : ∀ i (h : i < M.length), Lst w (rs i) M[i]
  old : ∀ i (h : i < M.length), 0 < M[i].length → ∀ g, (rs i).ownBlock = some g → g < base
theorem OutR.nil (w : World) (base : Nat) (rs : Nat → Value) : OutR w base (.slice none 0 0) rs [] :=
  ⟨World.ownsRow_nil _ _ _ _, fun _ h => absurd h (Nat.not_lt_zero _), fun _ h => absurd h (Nat.not_lt_zero _)⟩
theorem empty_out (W : World) (base : Nat) (rs : Nat → Value) (hb : base ≤ W.heap.size) : OutR (W.alloc (.cells #[] 36)) base (.slice (some ⟨W.heap.size, 0, none⟩) 0 0) rs [] :=
  ⟨World.ownsRow_made W #[] 0 hb (by unfold maxLen; omega) rfl, fun _ h => absurd h (Nat.not_lt_zero _), fun _ h => absurd h (Nat.not_lt_zero _)⟩
theorem OutR.cases {w : World} {base : Nat} {v : Value} {rs : Nat → Value} {M : List (List Int)} (h : OutR w base v rs M) :
    (v = .slice none 0 0 ∧ M = []) ∨ ∃ g cap, v = .slice (some ⟨g, 0, none⟩) M.length cap ∧ base ≤ g ∧ g < w.heap.size ∧ M.length ≤ cap ∧ cap ≤ maxLen := by
  rcases h.outer.2 with ⟨e, e2⟩ | ⟨g, cap, cur, rfl, hb, hg, hn, hm, _⟩
  · exact .inl ⟨e, List.length_eq_zero_iff.1 e2⟩
  · exact .inr ⟨g, cap, rfl, hb, (h.outer.lt g rfl).2, hn, hm⟩
theorem OutR.matR {w : World} {base : Nat} {v : Value} {rs : Nat → Value} {M : List (List Int)} (h : OutR w base v rs M) : MatR w v M := by
  refine ⟨?_, fun i hi => ?_⟩
  · rcases h.cases with e | ⟨g, cap, rfl, _⟩
    · exact .inl e
    · exact .inr ⟨_, _, rfl⟩
  · rcases h.cases with ⟨rfl, rfl⟩ | ⟨g, cap, rfl, _⟩
    · simp at hi
    · refine ⟨g, 0, cap, rs i, rfl, ?_, h.row i hi⟩
      rw [Nat.zero_add, h.outer.cellAt i (by omega)]
      exact rowsOf_at rs hi
theorem OutR.hold {w w' : World} {base : Nat} {v : Value} {rs : Nat → Value} {M : List (List Int)} (h : OutR w base v rs M) (k : Below w.heap.size w w') : OutR w' base v rs M :=
  ⟨h.outer.kept (grown_of_below k) (none_or fun g e => by cases e), fun i hi => (h.row i hi).hold k, h.old⟩
theorem Lst.block {w : World} {v : Value} {l : List Int} (h : Lst w v l) (hl : 0 < l.length) : ∃ g, v.ownBlock = some g := by
  obtain ⟨b, o, c, e, _⟩ := h.cells 0 hl
  exact ⟨b, by rw [e]; rfl⟩
theorem Lst.keptAt {w w' : World} {base : Nat} {v rv : Value} {l : List Int} (h : Lst w rv l) (k : w.grownBy w' v.ownBlock) (hv : ∀ g, v.ownBlock = some g → base ≤ g) (ho : 0 < l.length → ∀ g, rv.ownBlock = some g → g < base) : Lst w' rv l :=
  h.kept k fun hl e => by
    obtain ⟨g, hg⟩ := h.block hl
    have h1 := ho hl g hg
    rw [hg] at e
    have := hv g e.symm
    omega
/-- 'append(m, row)' of a row that lies in older memory. -/
theorem append_ref {w : World} {ops : Array Oper} {rest : List Oper} {o : Oper} {a : Act} {Q : Exit → Act → World → Prop} (hgd : o.guard = none) (s x : Operand)
    (ho : o.op = .call { callee := .builtin .append, args := #[s, x], argTypes := #[23, 23] })
    (base : Nat) (v : Value) (rs : Nat → Value) (M : List (List Int)) (hs : a.eval s = v) (hown : OutR w base v rs M) (rv : Value) (r : List Int) (hr : Lst w rv r) (hold : 0 < r.length → ∀ g, rv.ownBlock = some g → g < base)
    (hx : a.eval x = .slice (some ⟨w.heap.size, 0, none⟩) 1 1) (hl : M.length ≤ 1000000) (hbase : base ≤ w.heap.size)
    (h : ∀ g c w', OutR w' base (.slice (some ⟨g, 0, none⟩) (M.length + 1) c) (rsSet rs M.length rv) (M ++ [r]) → (v.ownBlock = some g ∨ w.heap.size < g) → w.grownBy w' v.ownBlock → wpList Try.prog ops Q rest (a.put o.dst (.slice (some ⟨g, 0, none⟩) (M.length + 1) c)) w') : wpList Try.prog ops Q (o :: rest) a (w.alloc (.cells #[rv] 36)) := by
  obtain ⟨i0, hi, hz0, hz1, hz2⟩ := info_parts info_row
  obtain ⟨ra, rc, re⟩ := hr.shape
  have hr1 : rv.oneCell' = true := by rw [re]; rfl
  have hnew : ∀ (j : Nat) (u : Value), [rv][j]? = some u → (w.alloc (.cells #[rv] 36)).cell? ((⟨w.heap.size, 0, none⟩ : Addr).add j) = some u := by
    intro j u hj
    match j, hj with
    | 0, hj => simp at hj; subst hj; simp [Addr.add]
  have hone : ∀ u ∈ [rv], u.oneCell' = true := fun u hu => by simp at hu; subst hu; exact hr1
  have hg0 : w.grownBy (w.alloc (.cells #[rv] 36)) v.ownBlock := grown_below (Below.made (Nat.le_refl _) (Below.refl _ _) _)
  have hvl : rowsOf (rsSet rs M.length rv) (M.length + 1) = rowsOf rs M.length ++ [rv] := rowsOf_snoc rs M.length rv
  -- what is known of the rows, whichever block the list of rows lies in
  have fin : ∀ g c w', w'.ownsRow base 36 1 (.slice (some ⟨g, 0, none⟩) (M.length + 1) c) (M.length + 1) (rowsOf rs M.length ++ [rv]) → (v.ownBlock = some g ∨ w.heap.size < g) → w.grownBy w' v.ownBlock →
      OutR w' base (.slice (some ⟨g, 0, none⟩) (M.length + 1) c) (rsSet rs M.length rv) (M ++ [r]) := fun g c w' ho hg hgr => by
    have hle : (M ++ [r]).length = M.length + 1 := by simp
    have hv : ∀ g, v.ownBlock = some g → base ≤ g := fun g e => (hown.outer.lt g e).1
    refine ⟨by rw [hle, hvl]; exact ho, fun i hi => ?_, fun i hi hpos b hb => ?_⟩
    · rw [hle] at hi
      by_cases e : i = M.length
      · subst e
        rw [rsSet_at, List.getElem_append_right (Nat.le_refl _)]
        simp only [Nat.sub_self, List.getElem_singleton]
        exact hr.keptAt hgr hv hold
      · have hi2 : i < M.length := by omega
        rw [rsSet_off rs rv e, List.getElem_append_left hi2]
        exact (hown.row i hi2).keptAt hgr hv (hown.old i hi2)
    · rw [hle] at hi
      by_cases e : i = M.length
      · subst e
        rw [rsSet_at] at hb
        rw [List.getElem_append_right (Nat.le_refl _)] at hpos
        simp only [Nat.sub_self, List.getElem_singleton] at hpos
        exact hold hpos b hb
      · have hi2 : i < M.length := by omega
        rw [rsSet_off rs rv e] at hb
        rw [List.getElem_append_left hi2] at hpos
        exact hown.old i hi2 hpos b hb
  rcases hown.cases with ⟨rfl, rfl⟩ | ⟨g, c, rfl, hb, hgw, hlc, hcm⟩
  · refine wpList_append_own _ hgd s x _ ho (w.heap.size + 1) 36 i0 (.slice none 0 0) 1 24 Try.underlying23 hi hz0 hz1 hz2 rfl (by omega) _ 0 [] hs (World.ownsRow_nil _ _ _ _) ⟨w.heap.size, 0, none⟩ 1 1 [rv] hx rfl hnew hone (by unfold maxLen; omega) (by omega) (by simp) ?_
    intro v' w' hown' hg hne
    rcases hown'.2 with ⟨_, h0⟩ | ⟨g, c, cur, rfl, hb, rr⟩
    · omega
    · refine h g c w' (fin g c w' ⟨hown'.1, .inr ⟨g, c, cur, rfl, by omega, rr⟩⟩ (.inr (by omega)) (grown_trans hg0 hg)) (.inr (by omega)) (grown_trans hg0 hg)
  · have hrow : (w.alloc (.cells #[rv] 36)).ownsRow base 36 1 (.slice (some ⟨g, 0, none⟩) M.length c) M.length (rowsOf rs M.length) := hown.outer.alloc _
    by_cases hroom : M.length + 1 ≤ c
    · refine wpList_append_fits _ hgd s x _ ho base 36 i0 1 Try.underlying23 hi hz1 g M.length c (rowsOf rs M.length) hs hrow ⟨w.heap.size, 0, none⟩ 1 1 [rv] hx rfl hnew hone hroom ?_
      intro w' hown' hg
      exact h g c w' (fin g c w' hown' (.inl rfl) (grown_trans hg0 hg)) (.inl rfl) (grown_trans hg0 hg)
    · refine wpList_plain hgd fun K hK => ?_
      have hrn := run_append_grow (P := Try.prog) (w.alloc (.cells #[rv] 36)) 23 o.type 36 i0 (.slice none 0 0) Try.underlying23 hi hz0 ⟨g, 0, none⟩ M.length c (rowsOf rs M.length) (by rw [rowsOf_len, hz1]; omega) (hrow.cells (g := g) rfl) ⟨w.heap.size, 0, none⟩ 1 1 [rv] (by rw [hz1]; rfl) hnew (by omega) (by omega)
        (by rw [hz2]; exact growslice_fits (by omega) (by omega))
      unfold Oper.wp
      simp [execOp, ho, resolve, invoke, builtin, hs, hx, hrn, Result.andThen]
      have hge := grownCap_ge (w.alloc (.cells #[rv] 36)) (M.length + 1) c 36
      have hle := grownCap_le_maxLen (w.alloc (.cells #[rv] 36)) (M.length + 1) c 36 (by unfold maxLen; omega)
      have hA := heap_alloc_new ((w.alloc (.cells #[rv] 36)).drew) (.cells ((rowsOf rs M.length ++ [rv]).toArray ++ Builtin.zeroCells (Value.slice none 0 0).cells (grownCap (w.alloc (.cells #[rv] 36)) (M.length + 1) c 36 - (M.length + 1))) 36)
      have hz : ((w.alloc (.cells #[rv] 36)).drew).heap.size = w.heap.size + 1 := by simp
      rw [hz] at hA
      have hgr : w.grownBy (((w.alloc (.cells #[rv] 36)).drew).alloc (.cells ((rowsOf rs M.length ++ [rv]).toArray ++ Builtin.zeroCells (Value.slice none 0 0).cells (grownCap (w.alloc (.cells #[rv] 36)) (M.length + 1) c 36 - (M.length + 1))) 36)) (Value.slice (some ⟨g, 0, none⟩) M.length c).ownBlock :=
        grown_trans hg0 (grown_any ⟨rfl, rfl, rfl, by simp, fun i hi _ => heap_alloc_old _ _ hi⟩)
      refine hK _ _ (h (w.heap.size + 1) _ _ (fin _ _ _ ⟨by simp [rowsOf], .inr ⟨w.heap.size + 1, _, _, rfl, by omega, hA, by simpa using hge, hle, ?_, ?_⟩⟩ (.inr (by omega)) hgr) (.inr (by omega)) hgr)
      · simp only [Array.size_append, List.size_toArray, size_zeroCells, rowsOf_len, List.length_append]
        simp [Value.cells]
        omega
      · rw [Nat.mul_one, Array.toList_append]
        exact List.take_left' (by simp [rowsOf])
end Go.Proofs.Ytdcdaclkeocfpaa
