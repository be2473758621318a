/- append of a row of the call's own onto a matrix of the call's own. -/
import Derived.Test.YtdcdaclkeocfpaaMats
namespace Go.Proofs.Ytdcdaclkeocfpaa
open Go.RowKit

theorem slice_one {a : Option Addr} {n c : Nat} : (Value.slice a n c).oneCell' = true := rfl
theorem rowsOf_one {w : World} {base : Nat} {v : Value} {rs : Nat → Value} {M : List (List Int)} (h : OwnM w base v rs M) : ∀ u ∈ rowsOf rs M.length, u.oneCell' = true := fun u hu => by
  simp only [rowsOf, List.mem_map, List.mem_range] at hu
  obtain ⟨i, hi, rfl⟩ := hu
  obtain ⟨a, c, e⟩ := (h.row i hi).slice
  rw [e]; rfl
/-- What is new lies apart. -/
theorem OwnM.fresh {W w1 : World} {base : Nat} {v rv : Value} {rs : Nat → Value} {M : List (List Int)} {r : List Int} (h : OwnM W base v rs M) (hr : Own w1 W.heap.size rv r) :
    (∀ k, k < M.length → ∀ b, (rs k).ownBlock = some b → rv.ownBlock ≠ some b) ∧ (∀ b, rv.ownBlock = some b → v.ownBlock ≠ some b) :=
  ⟨fun k hk b hb e => by
    have h1 := ((h.row k hk).row.lt b hb).2
    have h2 := (hr.row.lt b e).1
    omega, fun b hb e => by
    have h1 := (h.outer.lt b e).2
    have h2 := (hr.row.lt b hb).1
    omega⟩
/-- 'append(m, row)': m lies where it lay, or in a new block. -/
theorem append_mat {w : World} {ops : Array Oper} {rest : List Oper} {o : Oper} {a : Act} {Q : Exit → Act → World → Prop} (hgd : o.guard = none) (s x : Operand)
    (ho : o.op = .call { callee := .builtin .append, args := #[s, x], argTypes := #[23, 23] })
    (base : Nat) (v : Value) (rs : Nat → Value) (M : List (List Int)) (hs : a.eval s = v) (hown : OwnM w base v rs M) (rv : Value) (r : List Int) (hr : Own w base rv r)
    (hap : ∀ k, k < M.length → ∀ b, (rs k).ownBlock = some b → rv.ownBlock ≠ some b) (hoff : ∀ b, rv.ownBlock = some b → v.ownBlock ≠ some b)
    (hx : a.eval x = .slice (some ⟨w.heap.size, 0, none⟩) 1 1) (hl : M.length ≤ 1000000) (hbase : base ≤ w.heap.size)
    (h : ∀ g c w', OwnM w' base (.slice (some ⟨g, 0, none⟩) (M.length + 1) c) (rsSet rs M.length rv) (M ++ [r]) → (v.ownBlock = some g ∨ w.heap.size < g) → w.grownBy w' v.ownBlock → wpList Try.prog ops Q rest (a.put o.dst (.slice (some ⟨g, 0, none⟩) (M.length + 1) c)) w') : wpList Try.prog ops Q (o :: rest) a (w.alloc (.cells #[rv] 36)) := by
  obtain ⟨i0, hi, hz0, hz1, hz2⟩ := info_parts info_row
  obtain ⟨ra, rc, re⟩ := hr.slice
  have hr1 : rv.oneCell' = true := by rw [re]; rfl
  have hnew : ∀ (j : Nat) (u : Value), [rv][j]? = some u → (w.alloc (.cells #[rv] 36)).cell? ((⟨w.heap.size, 0, none⟩ : Addr).add j) = some u := by
    intro j u hj
    match j, hj with
    | 0, hj => simp at hj; subst hj; simp [Addr.add]
  have hone : ∀ u ∈ [rv], u.oneCell' = true := fun u hu => by simp at hu; subst hu; exact hr1
  have hg0 : w.grownBy (w.alloc (.cells #[rv] 36)) v.ownBlock := grown_below (Below.made (Nat.le_refl _) (Below.refl _ _) _)
  have hvl : rowsOf (rsSet rs M.length rv) (M.length + 1) = rowsOf rs M.length ++ [rv] := rowsOf_snoc rs M.length rv
  -- what is known of the rows, whichever block the list of rows lies in
  have fin : ∀ g c w', w'.ownsRow base 36 1 (.slice (some ⟨g, 0, none⟩) (M.length + 1) c) (M.length + 1) (rowsOf rs M.length ++ [rv]) → (v.ownBlock = some g ∨ w.heap.size < g) → w.grownBy w' v.ownBlock →
      OwnM w' base (.slice (some ⟨g, 0, none⟩) (M.length + 1) c) (rsSet rs M.length rv) (M ++ [r]) := fun g c w' ho hg hgr => by
    have hle : (M ++ [r]).length = M.length + 1 := by simp
    have hrg : rv.ownBlock ≠ some g := fun e => by
      rcases hg with e2 | e2
      · exact hoff g e e2
      · have := (hr.row.lt g e).2; omega
    have hkg : ∀ k, k < M.length → (rs k).ownBlock ≠ some g := fun k hk e => by
      rcases hg with e2 | e2
      · exact hown.off k hk g e e2
      · have := ((hown.row k hk).row.lt g e).2; omega
    have hrow : ∀ i (hi : i < (M ++ [r]).length), Own w' base (rsSet rs M.length rv i) (M ++ [r])[i] := fun i hi => by
      rw [hle] at hi
      by_cases e : i = M.length
      · subst e
        rw [rsSet_at, List.getElem_append_right (Nat.le_refl _)]
        simp only [Nat.sub_self, List.getElem_singleton]
        exact hr.kept hgr (none_or fun b hb hb2 => hoff b hb2 hb)
      · have hi2 : i < M.length := by omega
        rw [rsSet_off rs rv e, List.getElem_append_left hi2]
        exact (hown.row i hi2).kept hgr (none_or fun b hb hb2 => hown.off i hi2 b hb2 hb)
    refine ⟨?_, hrow, fun i j hi hj hne b hb => ?_, fun i hi b hb => ?_⟩
    · rw [hle, hvl]; exact ho
    · rw [hle] at hi hj
      by_cases e1 : i = M.length
      · rw [e1, rsSet_at] at hb
        rw [rsSet_off rs rv (by omega)]
        intro e2
        exact hap j (by omega) b e2 hb
      · rw [rsSet_off rs rv e1] at hb
        by_cases e2 : j = M.length
        · rw [e2, rsSet_at]; exact hap i (by omega) b hb
        · rw [rsSet_off rs rv e2]; exact hown.apart i j (by omega) (by omega) hne b hb
    · rw [hle] at hi
      intro e2
      have e3 : g = b := by simpa [Value.ownBlock] using e2
      subst e3
      by_cases e1 : i = M.length
      · rw [e1, rsSet_at] at hb; exact hrg hb
      · rw [rsSet_off rs rv e1] at hb; exact hkg i (by omega) hb
  rcases hown.cases with ⟨rfl, rfl⟩ | ⟨g, c, rfl, hb, hgw, hlc, hcm⟩
  · refine wpList_append_own _ hgd s x _ ho (w.heap.size + 1) 36 i0 (.slice none 0 0) 1 24 Try.underlying23 hi hz0 hz1 hz2 rfl (by omega) _ 0 [] hs (World.ownsRow_nil _ _ _ _) ⟨w.heap.size, 0, none⟩ 1 1 [rv] hx rfl hnew hone (by unfold maxLen; omega) (by omega) (by simp) ?_
    intro v' w' hown' hg hne
    rcases hown'.2 with ⟨_, h0⟩ | ⟨g, c, cur, rfl, hb, rr⟩
    · omega
    · refine h g c w' (fin g c w' ⟨hown'.1, .inr ⟨g, c, cur, rfl, by omega, rr⟩⟩ (.inr (by omega)) (grown_trans hg0 hg)) (.inr (by omega)) (grown_trans hg0 hg)
  · have hrow : (w.alloc (.cells #[rv] 36)).ownsRow base 36 1 (.slice (some ⟨g, 0, none⟩) M.length c) M.length (rowsOf rs M.length) := hown.outer.alloc _
    by_cases hroom : M.length + 1 ≤ c
    · refine wpList_append_fits _ hgd s x _ ho base 36 i0 1 Try.underlying23 hi hz1 g M.length c (rowsOf rs M.length) hs hrow ⟨w.heap.size, 0, none⟩ 1 1 [rv] hx rfl hnew hone hroom ?_
      intro w' hown' hg
      exact h g c w' (fin g c w' hown' (.inl rfl) (grown_trans hg0 hg)) (.inl rfl) (grown_trans hg0 hg)
    · refine wpList_plain hgd fun K hK => ?_
      have hrn := run_append_grow (P := Try.prog) (w.alloc (.cells #[rv] 36)) 23 o.type 36 i0 (.slice none 0 0) Try.underlying23 hi hz0 ⟨g, 0, none⟩ M.length c (rowsOf rs M.length) (by rw [rowsOf_len, hz1]; omega) (hrow.cells (g := g) rfl) ⟨w.heap.size, 0, none⟩ 1 1 [rv] (by rw [hz1]; rfl) hnew (by omega) (by omega)
        (by rw [hz2]; exact growslice_fits (by omega) (by omega))
      unfold Oper.wp
      simp [execOp, ho, resolve, invoke, builtin, hs, hx, hrn, Result.andThen]
      have hge := grownCap_ge (w.alloc (.cells #[rv] 36)) (M.length + 1) c 36
      have hle := grownCap_le_maxLen (w.alloc (.cells #[rv] 36)) (M.length + 1) c 36 (by unfold maxLen; omega)
      have hA := heap_alloc_new ((w.alloc (.cells #[rv] 36)).drew) (.cells ((rowsOf rs M.length ++ [rv]).toArray ++ Builtin.zeroCells (Value.slice none 0 0).cells (grownCap (w.alloc (.cells #[rv] 36)) (M.length + 1) c 36 - (M.length + 1))) 36)
      have hz : ((w.alloc (.cells #[rv] 36)).drew).heap.size = w.heap.size + 1 := by simp
      rw [hz] at hA
      have hgr : w.grownBy (((w.alloc (.cells #[rv] 36)).drew).alloc (.cells ((rowsOf rs M.length ++ [rv]).toArray ++ Builtin.zeroCells (Value.slice none 0 0).cells (grownCap (w.alloc (.cells #[rv] 36)) (M.length + 1) c 36 - (M.length + 1))) 36)) (Value.slice (some ⟨g, 0, none⟩) M.length c).ownBlock :=
        grown_trans hg0 (grown_any ⟨rfl, rfl, rfl, by simp, fun i hi _ => heap_alloc_old _ _ hi⟩)
      refine hK _ _ (h (w.heap.size + 1) _ _ (fin _ _ _ ⟨by simp [rowsOf], .inr ⟨w.heap.size + 1, _, _, rfl, by omega, hA, by simpa using hge, hle, ?_, ?_⟩⟩ (.inr (by omega)) hgr) (.inr (by omega)) hgr)
      · simp only [Array.size_append, List.size_toArray, size_zeroCells, rowsOf_len, List.length_append]
        simp [Value.cells]
        omega
      · rw [Nat.mul_one, Array.toList_append]
        exact List.take_left' (by simp [rowsOf])
end Go.Proofs.Ytdcdaclkeocfpaa
