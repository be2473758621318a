/- Lists of ints in memory (numbers that are not negative): read, and of the call's own; append. -/
import Derived.Test.YtdcdaclkeocfpaaOwnW
namespace Go.Proofs.Ytdcdaclkeocfpaa
open Go.RowKit

theorem info_int : (Try.prog.info? 3).map (fun i => (i.zero, i.size, i.bytes)) = some (some (.int .i64 0), 1, 8) := by kernel_rfl
def vi (l : List Nat) : List Value := l.map fun x : Nat => .int .i64 (x : Int)
theorem vi_at {l : List Nat} {i : Nat} (h : i < l.length) : (vi l)[i]? = some (.int .i64 l[i]) := by simp [vi, h]
theorem vi_snoc (l : List Nat) (x : Nat) : vi (l ++ [x]) = vi l ++ [.int .i64 x] := by simp [vi]
theorem vi_len (l : List Nat) : (vi l).length = l.length := by simp [vi]

/-- The value v reads as the list l. -/
structure LsI (w : World) (v : Value) (l : List Nat) : Prop where
  form : (v = .slice none 0 0 ∧ l = []) ∨ ∃ a c, v = .slice (some a) l.length c
  cells : ∀ i (h : i < l.length), ∃ b o c, v = .slice (some ⟨b, o, none⟩) l.length c ∧ w.cell? ⟨b, o + i, none⟩ = some (.int .i64 l[i])
theorem LsI.hold {w w' : World} {v : Value} {l : List Nat} (h : LsI w v l) (k : Below w.heap.size w w') : LsI w' v l :=
  ⟨h.form, fun i hi => by obtain ⟨b, o, c, e, hc⟩ := h.cells i hi; exact ⟨b, o, c, e, Below.hold k hc⟩⟩
theorem LsI.shape {w : World} {v : Value} {l : List Nat} (h : LsI w v l) : ∃ a c, v = .slice a l.length c := by
  rcases h.form with ⟨rfl, rfl⟩ | ⟨a, c, rfl⟩
  · exact ⟨_, _, rfl⟩
  · exact ⟨_, _, rfl⟩
theorem LsI.nil (w : World) : LsI w (.slice none 0 0) [] := ⟨.inl ⟨rfl, rfl⟩, fun i hi => by simp at hi⟩
theorem LsI.kept {w w' : World} {v : Value} {l : List Nat} {row : Option Nat} (h : LsI w v l) (k : w.grownBy w' row) (hr : 0 < l.length → v.ownBlock ≠ row) : LsI w' v l :=
  ⟨h.form, fun i hi => by
    obtain ⟨b, o, c, e, hc⟩ := h.cells i hi
    refine ⟨b, o, c, e, grown_cell k hc ?_⟩
    have hr := hr (by omega)
    rw [e] at hr; exact hr⟩

/-- The value v owns the list l, in blocks from 'base' on. -/
abbrev OwI (w : World) (base : Nat) (v : Value) (l : List Nat) : Prop := w.ownsRow base 3 1 v l.length (vi l)
theorem OwI.nil (w : World) (base : Nat) : OwI w base (.slice none 0 0) [] := World.ownsRow_nil _ _ _ _
theorem OwI.cases {w : World} {base : Nat} {v : Value} {l : List Nat} (h : OwI w base v l) :
    (v = .slice none 0 0 ∧ l = []) ∨ ∃ g cap, v = .slice (some ⟨g, 0, none⟩) l.length cap ∧ base ≤ g ∧ g < w.heap.size ∧ l.length ≤ cap ∧ cap ≤ maxLen := by
  rcases h.2 with ⟨e, e2⟩ | ⟨g, cap, cur, rfl, hb, hg, hn, hm, _⟩
  · exact .inl ⟨e, List.length_eq_zero_iff.1 e2⟩
  · exact .inr ⟨g, cap, rfl, hb, (World.ownsRow.lt h g rfl).2, hn, hm⟩
theorem OwI.lst {w : World} {base : Nat} {v : Value} {l : List Nat} (h : OwI w base v l) : LsI w v l := by
  refine ⟨?_, fun i hi => ?_⟩
  · rcases h.cases with e | ⟨g, cap, rfl, _⟩
    · exact .inl e
    · exact .inr ⟨_, _, rfl⟩
  · rcases h.cases with ⟨rfl, rfl⟩ | ⟨g, cap, rfl, _⟩
    · simp at hi
    · refine ⟨g, 0, cap, rfl, ?_⟩
      rw [Nat.zero_add, World.ownsRow.cellAt h i (by omega)]
      exact vi_at hi
theorem OwI.kept {w w' : World} {base : Nat} {v : Value} {l : List Nat} {row : Option Nat} (h : OwI w base v l) (k : w.grownBy w' row) (hr : v.ownBlock = none ∨ v.ownBlock ≠ row) : OwI w' base v l := World.ownsRow.kept h k hr
theorem OwI.hold {w w' : World} {base : Nat} {v : Value} {l : List Nat} (h : OwI w base v l) (k : Below w.heap.size w w') : OwI w' base v l := h.kept (grown_of_below k) (by cases v.ownBlock <;> simp)
theorem OwI.low {w : World} {base base' : Nat} {v : Value} {l : List Nat} (h : OwI w base v l) (hb : base' ≤ base) : OwI w base' v l := by
  refine ⟨h.1, ?_⟩
  rcases h.2 with e | ⟨g, cap, cur, e, hg, r⟩
  · exact .inl e
  · exact .inr ⟨g, cap, cur, e, by omega, r⟩
theorem empty_int (W : World) (base : Nat) (hb : base ≤ W.heap.size) : OwI (W.alloc (.cells #[] 3)) base (.slice (some ⟨W.heap.size, 0, none⟩) 0 0) [] :=
  World.ownsRow_made W #[] 0 hb (by unfold maxLen; omega) rfl

/-- 'append(s, x)' onto a list of the call's own: it lies where it lay, or in a new block. -/
theorem append_int {w : World} {ops : Array Oper} {rest : List Oper} {o : Oper} {a : Act} {Q : Exit → Act → World → Prop} (hgd : o.guard = none) (s x : Operand)
    (ho : o.op = .call { callee := .builtin .append, args := #[s, x], argTypes := #[28, 28] })
    (base : Nat) (v : Value) (l : List Nat) (hs : a.eval s = v) (hown : OwI w base v l) (n : Nat) (hx : a.eval x = .slice (some ⟨w.heap.size, 0, none⟩) 1 1)
    (hl : l.length ≤ 1000000) (hbase : base ≤ w.heap.size)
    (h : ∀ g c w', OwI w' base (.slice (some ⟨g, 0, none⟩) (l.length + 1) c) (l ++ [n]) → (v.ownBlock = some g ∨ w.heap.size < g) → w.grownBy w' v.ownBlock → wpList Try.prog ops Q rest (a.put o.dst (.slice (some ⟨g, 0, none⟩) (l.length + 1) c)) w') : wpList Try.prog ops Q (o :: rest) a (w.alloc (.cells #[.int .i64 n] 3)) := by
  obtain ⟨i0, hi, hz0, hz1, hz2⟩ := info_parts info_int
  have hnew : ∀ (j : Nat) (u : Value), [Value.int .i64 n][j]? = some u → (w.alloc (.cells #[.int .i64 n] 3)).cell? ((⟨w.heap.size, 0, none⟩ : Addr).add j) = some u := by
    intro j u hj
    match j, hj with
    | 0, hj => simp at hj; subst hj; simp [Addr.add]
  have hone : ∀ u ∈ [Value.int .i64 n], u.oneCell' = true := fun u hu => by simp at hu; subst hu; rfl
  have hg0 : w.grownBy (w.alloc (.cells #[.int .i64 n] 3)) v.ownBlock := grown_below (Below.made (Nat.le_refl _) (Below.refl _ _) _)
  have hvl : vi (l ++ [n]) = vi l ++ [.int .i64 n] := vi_snoc l n
  rcases hown.cases with ⟨rfl, rfl⟩ | ⟨g, c, rfl, hb, hgw, hlc, hcm⟩
  · refine wpList_append_own _ hgd s x _ ho (w.heap.size + 1) 3 i0 (.int .i64 0) 1 8 Try.underlying28 hi hz0 hz1 hz2 rfl (by omega) _ 0 [] hs (World.ownsRow_nil _ _ _ _) ⟨w.heap.size, 0, none⟩ 1 1 [.int .i64 n] hx rfl hnew hone (by unfold maxLen; omega) (by omega) (by simp) ?_
    intro v' w' hown' hg hne
    rcases hown'.2 with ⟨_, h0⟩ | ⟨g, c, cur, rfl, hb, r⟩
    · omega
    · exact h g c w' (by unfold OwI; rw [hvl]; exact ⟨hown'.1, .inr ⟨g, c, cur, rfl, by omega, r⟩⟩) (.inr (by omega)) (grown_trans hg0 hg)
  · have hrow : (w.alloc (.cells #[.int .i64 n] 3)).ownsRow base 3 1 (.slice (some ⟨g, 0, none⟩) l.length c) l.length (vi l) := World.ownsRow.alloc hown _
    by_cases hroom : l.length + 1 ≤ c
    · refine wpList_append_fits _ hgd s x _ ho base 3 i0 1 Try.underlying28 hi hz1 g l.length c (vi l) hs hrow ⟨w.heap.size, 0, none⟩ 1 1 [.int .i64 n] hx rfl hnew hone hroom ?_
      intro w' hown' hg
      exact h g c w' (by unfold OwI; rw [hvl, List.length_append]; exact hown') (.inl rfl) (grown_trans hg0 hg)
    · refine wpList_plain hgd fun K hK => ?_
      have hr := run_append_grow (P := Try.prog) (w.alloc (.cells #[.int .i64 n] 3)) 28 o.type 3 i0 (.int .i64 0) Try.underlying28 hi hz0 ⟨g, 0, none⟩ l.length c (vi l) (by rw [vi_len, hz1]; omega) (hrow.cells (g := g) rfl) ⟨w.heap.size, 0, none⟩ 1 1 [.int .i64 n] (by rw [hz1]; rfl) hnew (by omega) (by omega)
        (by rw [hz2]; exact growslice_fits (by omega) (by omega))
      unfold Oper.wp
      simp [execOp, ho, resolve, invoke, builtin, hs, hx, hr, Result.andThen]
      have hge := grownCap_ge (w.alloc (.cells #[.int .i64 n] 3)) (l.length + 1) c 3
      have hle := grownCap_le_maxLen (w.alloc (.cells #[.int .i64 n] 3)) (l.length + 1) c 3 (by unfold maxLen; omega)
      have hA := heap_alloc_new ((w.alloc (.cells #[.int .i64 n] 3)).drew) (.cells ((vi l ++ [Value.int .i64 n]).toArray ++ Builtin.zeroCells (Value.int .i64 0).cells (grownCap (w.alloc (.cells #[.int .i64 n] 3)) (l.length + 1) c 3 - (l.length + 1))) 3)
      have hz : ((w.alloc (.cells #[.int .i64 n] 3)).drew).heap.size = w.heap.size + 1 := by simp
      rw [hz] at hA
      refine hK _ _ (h (w.heap.size + 1) _ _ ⟨by simp [vi], .inr ⟨w.heap.size + 1, _, _, by rw [List.length_append]; rfl, by omega, hA, by simpa using hge, hle, ?_, ?_⟩⟩ (.inr (by omega)) ?_)
      · simp only [Array.size_append, List.size_toArray, size_zeroCells, vi_len, List.length_append]
        simp [Value.cells]
        omega
      · rw [hvl, Nat.mul_one, Array.toList_append]
        exact List.take_left' (by simp [vi])
      · refine grown_trans hg0 (grown_any ⟨rfl, rfl, rfl, by simp, fun i hi _ => ?_⟩)
        exact heap_alloc_old _ _ hi
end Go.Proofs.Ytdcdaclkeocfpaa
