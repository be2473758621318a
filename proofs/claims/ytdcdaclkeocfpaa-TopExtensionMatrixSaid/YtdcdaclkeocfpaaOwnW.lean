/- Writes into lists of the call's own, and what they leave as it was. -/
import Derived.Test.YtdcdaclkeocfpaaRefR
import Derived.OwnWalkIn
namespace Go.Proofs.Ytdcdaclkeocfpaa
open Go.RowKit

theorem grown_trans {w a b : World} {row : Option Nat} (h : w.grownBy a row) (k : a.grownBy b row) : w.grownBy b row :=
  ⟨k.os.trans h.os, k.tape.trans h.tape, k.output.trans h.output, Nat.le_trans h.size k.size, fun i hi hr => (k.block i (Nat.lt_of_lt_of_le hi h.size) hr).trans (h.block i hi hr)⟩
theorem grown_any {w w' : World} {row : Option Nat} (h : w.grownBy w' none) : w.grownBy w' row := ⟨h.os, h.tape, h.output, h.size, fun i hi _ => h.block i hi (by simp)⟩
theorem grown_below {w a : World} {row : Option Nat} (k : Below w.heap.size w a) : w.grownBy a row := grown_any (grown_of_below k)
theorem grown_next {w a b : World} {row : Option Nat} (h : w.grownBy a row) (k : Below a.heap.size a b) : w.grownBy b row := grown_trans h (grown_below k)
theorem grown_then {w a b : World} {row : Option Nat} (k : Below w.heap.size w a) (h : a.grownBy b row) : w.grownBy b row := grown_trans (grown_below k) h
theorem grown_cell {w w' : World} {row : Option Nat} (h : w.grownBy w' row) {a : Addr} {v : Value} (hc : w.cell? a = some v) (hr : some a.block ≠ row) : w'.cell? a = some v :=
  (World.cell?_of_block (h.block _ (World.block_lt_of_cell? _ _ hc) hr)).trans hc
theorem Lst.kept {w w' : World} {v : Value} {l : List Int} {row : Option Nat} (h : Lst w v l) (k : w.grownBy w' row) (hr : 0 < l.length → v.ownBlock ≠ row) : Lst w' v l :=
  ⟨h.form, fun i hi => by
    obtain ⟨b, o, c, e, hc⟩ := h.cells i hi
    refine ⟨b, o, c, e, grown_cell k hc ?_⟩
    have hr := hr (by omega)
    rw [e] at hr; exact hr, h.us, h.room⟩
theorem Lst.lt {w : World} {v : Value} {l : List Int} (h : Lst w v l) (hl : 0 < l.length) {k : Nat} (hk : v.ownBlock = some k) : k < w.heap.size := by
  obtain ⟨b, o, c, e, hc⟩ := h.cells 0 hl
  rw [e] at hk
  cases hk
  exact World.block_lt_of_cell? _ _ hc
/-- A list that lay there before the memory that is written. -/
theorem Lst.off {w : World} {v : Value} {l : List Int} {g : Nat} (h : Lst w v l) (hg : w.heap.size ≤ g) : 0 < l.length → v.ownBlock ≠ some g := fun hl e => by
  have := h.lt hl e; omega
theorem Own.kept {w w' : World} {base : Nat} {v : Value} {l : List Int} {row : Option Nat} (h : Own w base v l) (k : w.grownBy w' row) (hr : v.ownBlock = none ∨ v.ownBlock ≠ row) : Own w' base v l := ⟨h.row.kept k hr, h.us⟩
/-- A list of the call's own was written. -/
theorem Below.wrote {B base : Nat} {w a b : World} {v : Value} {l : List Int} (h : Below B w a) (hB : B ≤ base) (hs : B ≤ a.heap.size) (hown : Own a base v l) (k : a.grownBy b v.ownBlock) : Below B w b :=
  h.grown k hs (fun i e => Nat.le_trans hB (hown.row.lt i e).1)
theorem Own.len {w : World} {base n c : Nat} {a : Option Addr} {l : List Int} (h : Own w base (.slice a n c) l) : l.length = n := by
  rcases h.cases with ⟨e, e2⟩ | ⟨g, cap, e, _⟩
  · cases e; rw [e2]; rfl
  · cases e; rfl
theorem Own.room {w : World} {base n c : Nat} {a : Option Addr} {l : List Int} (h : Own w base (.slice a n c) l) : n ≤ c := by
  rcases h.cases with ⟨e, e2⟩ | ⟨g, cap, e, _, _, hc, _⟩
  · cases e; exact Nat.le_refl _
  · cases e; exact hc
theorem Own.cell {w : World} {base g n c : Nat} {l : List Int} (h : Own w base (.slice (some ⟨g, 0, none⟩) n c) l) {i : Nat} (hi : i < l.length) : w.cell? ⟨g, i, none⟩ = some (.int .u64 l[i]) := by
  obtain rfl := h.len
  rw [h.row.cellAt i (by omega)]
  exact vs_at hi
theorem Own.thawed {w : World} {base g n c : Nat} {l : List Int} (h : Own w base (.slice (some ⟨g, 0, none⟩) n c) l) (i : Nat) : w.frozen? ⟨g, i, none⟩ = false := by
  obtain rfl := h.len
  exact h.row.frozenAt i
theorem vs_set (l : List Int) (i : Nat) (x : Int) : vs (l.set i x) = (vs l).set i (.int .u64 x) := by simp [vs, List.map_set]
theorem Us.set {l : List Int} (h : Us l) (i : Nat) {x : Int} (hx : U x) : Us (l.set i x) := fun y hy => by
  rcases List.mem_or_eq_of_mem_set hy with hy | rfl
  · exact h y hy
  · exact hx
theorem Own.set {w : World} {base g n c : Nat} {l : List Int} (h : Own w base (.slice (some ⟨g, 0, none⟩) n c) l) (i : Nat) (x : Int) [hx : U x] :
    Own (w.setCell ⟨g, i, none⟩ (.int .u64 x)) base (.slice (some ⟨g, 0, none⟩) n c) (l.set i x) ∧ w.grownBy (w.setCell ⟨g, i, none⟩ (.int .u64 x)) (some g) := by
  obtain rfl := h.len
  obtain ⟨h1, h2⟩ := h.row.stored i (.int .u64 x)
  refine ⟨⟨?_, h.us.set i hx⟩, h2⟩
  rw [vs_set, List.length_set]; exact h1
/-- A shorter list in the same memory. -/
theorem Own.take {w : World} {base g n c : Nat} {l : List Int} (h : Own w base (.slice (some ⟨g, 0, none⟩) n c) l) {k : Nat} (hk : k ≤ n) : Own w base (.slice (some ⟨g, 0, none⟩) k c) (l.take k) := by
  obtain rfl := h.len
  have hlk : (l.take k).length = k := by rw [List.length_take]; omega
  refine ⟨⟨by rw [vs_len]; omega, ?_⟩, fun y hy => h.us y (List.mem_of_mem_take hy)⟩
  rw [hlk]
  rcases h.row.2 with ⟨e, _⟩ | ⟨g', cap', cur, e, hb, hg, hn, hm, hs, ht⟩
  · cases e
  · obtain ⟨rfl, rfl⟩ : g = g' ∧ c = cap' := by simp at e; exact e
    refine .inr ⟨g, c, cur, rfl, hb, hg, by omega, hm, hs, ?_⟩
    have h2 := congrArg (List.take k) ht
    rw [List.take_take, Nat.min_eq_left (by omega)] at h2
    rw [Nat.mul_one, h2]
    simp [vs, List.map_take]
theorem Own.high {w : World} {base base' g n c : Nat} {l : List Int} (h : Own w base (.slice (some ⟨g, 0, none⟩) n c) l) (hb : base' ≤ g) : Own w base' (.slice (some ⟨g, 0, none⟩) n c) l := by
  refine ⟨⟨h.row.1, ?_⟩, h.us⟩
  rcases h.row.2 with e | ⟨g', cap, cur, e, _, r⟩
  · exact .inl e
  · have : g = g' := by simp at e; exact e.1
    subst this
    exact .inr ⟨g, cap, cur, e, hb, r⟩

/-- One number appended: the list lies where it lay, or in a new block. -/
theorem append_new {w : World} {ops : Array Oper} {rest : List Oper} {o : Oper} {a : Act} {Q : Exit → Act → World → Prop} (hgd : o.guard = none) (s x : Operand)
    (ho : o.op = .call { callee := .builtin .append, args := #[s, x], argTypes := #[36, 36] })
    (base : Nat) (v : Value) (l : List Int) (hs : a.eval s = v) (hown : Own w base v l) (n : Int) (hn : U n) (hx : a.eval x = .slice (some ⟨w.heap.size, 0, none⟩) 1 1)
    (hl : l.length ≤ 1000000) (hbase : base ≤ w.heap.size)
    (h : ∀ g c w', Own w' base (.slice (some ⟨g, 0, none⟩) (l.length + 1) c) (l ++ [n]) → (v.ownBlock = some g ∨ w.heap.size < g) → w.grownBy w' v.ownBlock → wpList Try.prog ops Q rest (a.put o.dst (.slice (some ⟨g, 0, none⟩) (l.length + 1) c)) w') : wpList Try.prog ops Q (o :: rest) a (w.alloc (.cells #[.int .u64 n] 22)) := by
  obtain ⟨i0, hi, hz0, hz1, hz2⟩ := info_parts info_u64
  have hnew : ∀ (j : Nat) (u : Value), [Value.int .u64 n][j]? = some u → (w.alloc (.cells #[.int .u64 n] 22)).cell? ((⟨w.heap.size, 0, none⟩ : Addr).add j) = some u := by
    intro j u hj
    match j, hj with
    | 0, hj => simp at hj; subst hj; simp [Addr.add]
  have hone : ∀ u ∈ [Value.int .u64 n], u.oneCell' = true := fun u hu => by simp at hu; subst hu; rfl
  have hg0 : w.grownBy (w.alloc (.cells #[.int .u64 n] 22)) v.ownBlock := grown_below (Below.made (Nat.le_refl _) (Below.refl _ _) _)
  have hus := hown.us.snoc hn
  have hvl : vs (l ++ [n]) = vs l ++ [.int .u64 n] := vs_snoc l n
  rcases hown.cases with ⟨rfl, rfl⟩ | ⟨g, c, rfl, hb, hgw, hlc, hcm⟩
  · refine wpList_append_own _ hgd s x _ ho (w.heap.size + 1) 22 i0 (.int .u64 0) 1 8 Try.underlying36 hi hz0 hz1 hz2 rfl (by omega) _ 0 [] hs (World.ownsRow_nil _ _ _ _) ⟨w.heap.size, 0, none⟩ 1 1 [.int .u64 n] hx rfl hnew hone (by unfold maxLen; omega) (by omega) (by simp) ?_
    intro v' w' hown' hg hne
    rcases hown'.2 with ⟨_, h0⟩ | ⟨g, c, cur, rfl, hb, r⟩
    · omega
    · exact h g c w' ⟨by rw [hvl]; exact ⟨hown'.1, .inr ⟨g, c, cur, rfl, by omega, r⟩⟩, hus⟩ (.inr (by omega)) (grown_trans hg0 hg)
  · have hrow : (w.alloc (.cells #[.int .u64 n] 22)).ownsRow base 22 1 (.slice (some ⟨g, 0, none⟩) l.length c) l.length (vs l) := hown.row.alloc _
    by_cases hroom : l.length + 1 ≤ c
    · refine wpList_append_fits _ hgd s x _ ho base 22 i0 1 Try.underlying36 hi hz1 g l.length c (vs l) hs hrow ⟨w.heap.size, 0, none⟩ 1 1 [.int .u64 n] hx rfl hnew hone hroom ?_
      intro w' hown' hg
      exact h g c w' ⟨by rw [hvl, List.length_append]; exact hown', hus⟩ (.inl rfl) (grown_trans hg0 hg)
    · refine wpList_plain hgd fun K hK => ?_
      have hr := run_append_grow (P := Try.prog) (w.alloc (.cells #[.int .u64 n] 22)) 36 o.type 22 i0 (.int .u64 0) Try.underlying36 hi hz0 ⟨g, 0, none⟩ l.length c (vs l) (by rw [vs_len, hz1]; omega) (hrow.cells (g := g) rfl) ⟨w.heap.size, 0, none⟩ 1 1 [.int .u64 n] (by rw [hz1]; rfl) hnew (by omega) (by omega)
        (by rw [hz2]; exact growslice_fits (by omega) (by omega))
      unfold Oper.wp
      simp [execOp, ho, resolve, invoke, builtin, hs, hx, hr, Result.andThen]
      have hge := grownCap_ge (w.alloc (.cells #[.int .u64 n] 22)) (l.length + 1) c 22
      have hle := grownCap_le_maxLen (w.alloc (.cells #[.int .u64 n] 22)) (l.length + 1) c 22 (by unfold maxLen; omega)
      have hA := heap_alloc_new ((w.alloc (.cells #[.int .u64 n] 22)).drew) (.cells ((vs l ++ [Value.int .u64 n]).toArray ++ Builtin.zeroCells (Value.int .u64 0).cells (grownCap (w.alloc (.cells #[.int .u64 n] 22)) (l.length + 1) c 22 - (l.length + 1))) 22)
      have hz : ((w.alloc (.cells #[.int .u64 n] 22)).drew).heap.size = w.heap.size + 1 := by simp
      rw [hz] at hA
      refine hK _ _ (h (w.heap.size + 1) _ _ ⟨⟨by simp [vs], .inr ⟨w.heap.size + 1, _, _, by rw [List.length_append]; rfl, by omega, hA, by simpa using hge, hle, ?_, ?_⟩⟩, hus⟩ (.inr (by omega)) ?_)
      · simp only [Array.size_append, List.size_toArray, size_zeroCells, vs_len, List.length_append]
        simp [Value.cells]
        omega
      · rw [hvl, Nat.mul_one, Array.toList_append]
        exact List.take_left' (by simp [vs])
      · refine grown_trans hg0 (grown_any ⟨rfl, rfl, rfl, by simp, fun i hi _ => ?_⟩)
        exact heap_alloc_old _ _ hi
end Go.Proofs.Ytdcdaclkeocfpaa
