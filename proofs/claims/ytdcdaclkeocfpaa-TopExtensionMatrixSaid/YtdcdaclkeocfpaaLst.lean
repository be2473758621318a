/- Lists of numbers in memory: a list that is read, a list of the call's own; append, and a shorter list. -/
import Derived.Test.YtdcdaclkeocfpaaU64
import Derived.Laws.AppendOwnNone
import Derived.OwnWalk
namespace Go.Proofs.Ytdcdaclkeocfpaa
open Go.RowKit

theorem info_u64 : (Try.prog.info? 22).map (fun i => (i.zero, i.size, i.bytes)) = some (some (.int .u64 0), 1, 8) := by kernel_rfl
theorem Below.hold {W w1 : World} (h : Below W.heap.size W w1) {a : Addr} {v : Value} (hc : W.cell? a = some v) : w1.cell? a = some v :=
  (h.cell (World.block_lt_of_cell? W _ hc)).trans hc
theorem Below.next {B : Nat} {w a b : World} (hB : B ≤ w.heap.size) (h : Below B w a) (k : Below a.heap.size a b) : Below B w b := h.trans (k.mono (Nat.le_trans hB h.size))
theorem Below.made {B : Nat} {w a : World} (hB : B ≤ w.heap.size) (h : Below B w a) (o : Obj) : Below B w (a.alloc o) := h.alloc (Nat.le_trans hB h.size) o

def vs (l : List Int) : List Value := l.map fun x => .int .u64 x
theorem vs_at {l : List Int} {i : Nat} (h : i < l.length) : (vs l)[i]? = some (.int .u64 l[i]) := by simp [vs, h]
theorem vs_one {l : List Int} {u : Value} (h : u ∈ vs l) : u.oneCell' = true := by
  simp only [vs, List.mem_map] at h
  obtain ⟨x, _, rfl⟩ := h
  rfl
theorem vs_snoc (l : List Int) (x : Int) : vs (l ++ [x]) = vs l ++ [.int .u64 x] := by simp [vs]
theorem vs_len (l : List Int) : (vs l).length = l.length := by simp [vs]
/-- All are values of uint64. -/
def Us (l : List Int) : Prop := ∀ x ∈ l, U x
theorem Us.snoc {l : List Int} (h : Us l) {x : Int} (hx : U x) : Us (l ++ [x]) := fun y hy => by
  rcases List.mem_append.1 hy with hy | hy
  · exact h y hy
  · simp at hy; subst hy; exact hx
theorem us_nil : Us [] := fun x h => by cases h

/-- The value v reads as the list l. -/
structure Lst (w : World) (v : Value) (l : List Int) : Prop where
  form : (v = .slice none 0 0 ∧ l = []) ∨ ∃ a c, v = .slice (some a) l.length c
  cells : ∀ i (h : i < l.length), ∃ b o c, v = .slice (some ⟨b, o, none⟩) l.length c ∧ w.cell? ⟨b, o + i, none⟩ = some (.int .u64 l[i])
  us : Us l
  room : ∀ a n c, v = .slice a n c → n ≤ c
theorem Lst.hold {w w' : World} {v : Value} {l : List Int} (h : Lst w v l) (k : Below w.heap.size w w') : Lst w' v l :=
  ⟨h.form, fun i hi => by obtain ⟨b, o, c, e, hc⟩ := h.cells i hi; exact ⟨b, o, c, e, Below.hold k hc⟩, h.us, h.room⟩
theorem Lst.shape {w : World} {v : Value} {l : List Int} (h : Lst w v l) : ∃ a c, v = .slice a l.length c := by
  rcases h.form with ⟨rfl, rfl⟩ | ⟨a, c, rfl⟩
  · exact ⟨_, _, rfl⟩
  · exact ⟨_, _, rfl⟩
theorem Lst.nil (w : World) : Lst w (.slice none 0 0) [] := ⟨.inl ⟨rfl, rfl⟩, fun i hi => by simp at hi, us_nil, fun a n c e => by cases e; exact Nat.le_refl _⟩

/-- The value v owns the list l, in blocks from 'base' on. -/
structure Own (w : World) (base : Nat) (v : Value) (l : List Int) : Prop where
  row : w.ownsRow base 22 1 v l.length (vs l)
  us : Us l
theorem Own.nil (w : World) (base : Nat) : Own w base (.slice none 0 0) [] := ⟨World.ownsRow_nil _ _ _ _, us_nil⟩
theorem Own.cases {w : World} {base : Nat} {v : Value} {l : List Int} (h : Own w base v l) :
    (v = .slice none 0 0 ∧ l = []) ∨ ∃ g cap, v = .slice (some ⟨g, 0, none⟩) l.length cap ∧ base ≤ g ∧ g < w.heap.size ∧ l.length ≤ cap ∧ cap ≤ maxLen := by
  rcases h.row.2 with ⟨e, e2⟩ | ⟨g, cap, cur, rfl, hb, hg, hn, hm, _⟩
  · exact .inl ⟨e, List.length_eq_zero_iff.1 e2⟩
  · exact .inr ⟨g, cap, rfl, hb, (h.row.lt g rfl).2, hn, hm⟩
theorem Own.lst {w : World} {base : Nat} {v : Value} {l : List Int} (h : Own w base v l) : Lst w v l := by
  refine ⟨?_, fun i hi => ?_, h.us, fun a n c e => ?_⟩
  · rcases h.cases with e | ⟨g, cap, rfl, _⟩
    · exact .inl e
    · exact .inr ⟨_, _, rfl⟩
  · rcases h.cases with ⟨rfl, rfl⟩ | ⟨g, cap, rfl, _⟩
    · simp at hi
    · refine ⟨g, 0, cap, rfl, ?_⟩
      rw [Nat.zero_add, h.row.cellAt i (by omega)]
      exact vs_at hi
  · rcases h.cases with ⟨rfl, rfl⟩ | ⟨g, cap, rfl, _, _, hc, _⟩
    · cases e; exact Nat.le_refl _
    · cases e; exact hc
theorem grown_of_below {w w' : World} (k : Below w.heap.size w w') : w.grownBy w' none := ⟨k.os, k.tape, k.output, k.size, fun i hi _ => k.block i hi⟩
theorem Own.hold {w w' : World} {base : Nat} {v : Value} {l : List Int} (h : Own w base v l) (k : Below w.heap.size w w') : Own w' base v l :=
  ⟨h.row.kept (grown_of_below k) (by cases v.ownBlock <;> simp), h.us⟩
theorem Own.low {w : World} {base base' : Nat} {v : Value} {l : List Int} (h : Own w base v l) (hb : base' ≤ base) : Own w base' v l := by
  refine ⟨⟨h.row.1, ?_⟩, h.us⟩
  rcases h.row.2 with e | ⟨g, cap, cur, e, hg, r⟩
  · exact .inl e
  · exact .inr ⟨g, cap, cur, e, by omega, r⟩
/-- Without the last element. -/
theorem Own.pop {w : World} {base g cap : Nat} {l : List Int} {x : Int} (h : Own w base (.slice (some ⟨g, 0, none⟩) (l.length + 1) cap) (l ++ [x])) : Own w base (.slice (some ⟨g, 0, none⟩) l.length cap) l := by
  refine ⟨⟨by rw [vs_len]; omega, ?_⟩, fun y hy => h.us y (by simp [hy])⟩
  rcases h.row.2 with ⟨e, _⟩ | ⟨g', cap', cur, e, hb, hg, hn, hm, hs, ht⟩
  · cases e
  · obtain ⟨rfl, rfl⟩ : g = g' ∧ cap = cap' := by simp at e; exact e
    refine .inr ⟨g, cap, cur, rfl, hb, hg, by simp at hn; omega, hm, hs, ?_⟩
    have h1 : (l ++ [x]).length * 1 = l.length + 1 := by simp
    rw [h1] at ht
    have h2 := congrArg (List.take l.length) ht
    rw [List.take_take, Nat.min_eq_left (by omega), vs_snoc, List.take_left' (vs_len l)] at h2
    rw [Nat.mul_one]; exact h2

/-- 'append(s, x)' onto a list of the call's own. -/
theorem append_one {w : World} {ops : Array Oper} {rest : List Oper} {o : Oper} {a : Act} {Q : Exit → Act → World → Prop} (hgd : o.guard = none) (s x : Operand)
    (ho : o.op = .call { callee := .builtin .append, args := #[s, x], argTypes := #[36, 36] })
    (base : Nat) (v : Value) (l : List Int) (hs : a.eval s = v) (hown : Own w base v l) (n : Int) (hn : U n) (hx : a.eval x = .slice (some ⟨w.heap.size, 0, none⟩) 1 1)
    (hl : l.length ≤ 1000000) (hbase : base ≤ w.heap.size)
    (h : ∀ v' w', Own w' base v' (l ++ [n]) → Below base w w' → wpList Try.prog ops Q rest (a.put o.dst v') w') : wpList Try.prog ops Q (o :: rest) a (w.alloc (.cells #[.int .u64 n] 22)) := by
  obtain ⟨i0, hi, hz0, hz1, hz2⟩ := info_parts info_u64
  refine wpList_append_own _ hgd s x _ ho base 22 i0 (.int .u64 0) 1 8 Try.underlying36 hi hz0 hz1 hz2 rfl (by omega) v l.length (vs l) hs (hown.row.alloc _) ⟨w.heap.size, 0, none⟩ 1 1 [.int .u64 n] hx rfl ?_ (fun u hu => by simp at hu; subst hu; rfl) (by unfold maxLen; omega) (by omega) (by simp; omega) ?_
  · intro j u hj
    match j, hj with
    | 0, hj => simp at hj; subst hj; simp [Addr.add]
  · intro v' w' hown' hg _
    refine h v' w' ⟨by rw [vs_snoc]; simpa using hown', hown.us.snoc hn⟩ ?_
    have h0 : Below base w (w.alloc (.cells #[.int .u64 n] 22)) := (Below.refl _ _).alloc hbase _
    exact h0.grown hg (by simp; omega) (fun k e => (hown.row.lt k e).1)

/-- 'append(s, x...)' of a whole list onto a list of the call's own. -/
theorem append_all {w : World} {ops : Array Oper} {rest : List Oper} {o : Oper} {a : Act} {Q : Exit → Act → World → Prop} (hgd : o.guard = none) (s x : Operand)
    (ho : o.op = .call { callee := .builtin .append, args := #[s, x], argTypes := #[36, 36] })
    (base : Nat) (v : Value) (l : List Int) (hs : a.eval s = v) (hown : Own w base v l) (vx : Value) (m : List Int) (hx : a.eval x = vx) (hm : Lst w vx m)
    (hl : l.length ≤ 1000000) (hml : m.length ≤ 1000000) (hbase : base ≤ w.heap.size)
    (h : ∀ v' w', Own w' base v' (l ++ m) → Below base w w' → wpList Try.prog ops Q rest (a.put o.dst v') w') : wpList Try.prog ops Q (o :: rest) a w := by
  obtain ⟨i0, hi, hz0, hz1, hz2⟩ := info_parts info_u64
  rcases hm.form with ⟨rfl, rfl⟩ | ⟨ad, c, rfl⟩
  · skip
    refine wpList_append_own_none hgd s x _ ho base 22 i0 1 Try.underlying36 hi v l.length (vs l) hs hown.row hx ?_
    exact h _ _ (by rw [List.append_nil]; exact hown) (Below.refl _ _)
  · refine wpList_append_own w hgd s x _ ho base 22 i0 (.int .u64 0) 1 8 Try.underlying36 hi hz0 hz1 hz2 rfl (by omega) v l.length (vs l) hs hown.row ad m.length c (vs m) hx (by rw [vs_len]; omega) ?_ (fun u hu => vs_one hu) (by unfold maxLen; omega) (by omega) hbase ?_
    · intro j u hj
      have hjn : j < m.length := by
        have := (List.getElem?_eq_some_iff.1 hj).1; rw [vs_len] at this; exact this
      rw [vs_at hjn] at hj
      cases hj
      obtain ⟨b1, o1, c1, e1, h1⟩ := hm.cells j hjn
      cases e1
      rw [Go.WideShapes.add_plain]
      exact h1
    · intro v' w' hown' hg _
      refine h v' w' ⟨?_, ?_⟩ ((Below.refl _ _).grown hg hbase (fun k e => (hown.row.lt k e).1))
      · rw [List.length_append, show vs (l ++ m) = vs l ++ vs m by simp [vs]]; exact hown'
      · intro y hy
        rcases List.mem_append.1 hy with hy | hy
        · exact hown.us y hy
        · exact hm.us y hy
/-- 'make([]uint64, n)'. -/
theorem make_zeros {w : World} {ops : Array Oper} {rest : List Oper} {o : Oper} {a : Act} {Q : Exit → Act → World → Prop} (hgd : o.guard = none) (s x : Operand) (ho : o.op = Op.makeSlice 36 s x)
    (base n : Nat) (hs : a.eval s = .int .i64 n) (hx : a.eval x = .int .i64 n) (hn : n ≤ 1000000) (hbase : base ≤ w.heap.size)
    (h : ∀ v' w', Own w' base v' (List.replicate n 0) → v' = .slice (some ⟨w.heap.size, 0, none⟩) n n → Below base w w' → wpList Try.prog ops Q rest (a.put o.dst v') w') : wpList Try.prog ops Q (o :: rest) a w := by
  obtain ⟨i0, hi, hz0, hz1, hz2⟩ := info_parts info_u64
  refine wpList_make_full w hgd s x 36 ho base 22 i0 (.int .u64 0) 1 Try.underlying36 hi hz0 hz1 .i64 .i64 n n n hs hx rfl rfl (by rw [hz2]; omega) (by unfold maxLen; omega) hbase ?_
  intro w' hown hg
  have e : (madeCells (Value.int .u64 0).cells (n * 1)).toList = vs (List.replicate n 0) := by
    rw [Nat.mul_one, vs, List.map_replicate, List.eq_replicate_iff]
    simp [madeCells, Value.cells, Nat.mod_one]
  refine h _ w' ⟨?_, ?_⟩ rfl ((Below.refl _ _).grown hg hbase (fun k e => by cases e))
  · rw [List.length_replicate, ← e]; exact hown
  · intro y hy
    rw [(List.mem_replicate.1 hy).2]; infer_instance

/-- What 'Reduce' and its like do to each element, the zeros at the end dropped: the element behind. -/
theorem take_snoc {l : List Int} {k : Nat} (h : k < l.length) : l.take (k + 1) = l.take k ++ [l[k]] := by
  rw [List.take_succ_eq_append_getElem h]
end Go.Proofs.Ytdcdaclkeocfpaa
