/- The walk of the reference's Solve (05). -/
import Derived.Test.YtdcdaclkeocfpaaKI
import Derived.Deep.RegionHeld3
import Derived.Deep.AppendLies
namespace Go.Proofs.Ytdcdaclkeocfpaa
open Go.RowKit Go.BigFrame
open Classical

theorem step_of {ops : Array Oper} {o : Oper} {a : Act} {K : Act → World → Prop} {Q : Exit → Act → World → Prop} {E : Prop} {w : World} (hgd : o.guard = none)
    (h : wpList Try.prog ops (fun e a w => e = .normal ∧ K a w) [o] a w) : if Region.wanted o (yielded ops a.tmps) = true then Oper.wp Try.prog o a w K Q else E := by
  have hw : Region.wanted o (yielded ops a.tmps) = true := by simp [Region.wanted, hgd]
  rw [if_pos hw]
  unfold wpList at h
  rw [if_pos hw] at h
  rcases h with h | ⟨_, _, _, h, _⟩
  · unfold Oper.wp at *
    generalize (execOp a.eval o).run Try.prog w = r at *
    cases r with
    | ok n w' =>
      cases n <;> simp only [Oper.upon, wpList] at h ⊢
      all_goals first
        | exact h.2
        | exact Calls.mono h (fun e w'' he => by cases e <;> first | exact he.2 | exact absurd he.1 (by simp) | (obtain ⟨_, _, h, _⟩ := he; cases h))
        | exact Rows.mono h (fun _ _ he => he.2)
    | halt x w' => cases x <;> simp only [Oper.upon] at h ⊢ <;> first | exact h | (cases h.1)
  · cases h

theorem append_all_g {w : World} {ops : Array Oper} {rest : List Oper} {o : Oper} {a : Act} {Q : Exit → Act → World → Prop} (hgd : o.guard = none) (s x : Operand)
    (ho : o.op = .call { callee := .builtin .append, args := #[s, x], argTypes := #[36, 36] })
    (base : Nat) (v : Value) (l : List Int) (hs : a.eval s = v) (hown : Own w base v l) (vx : Value) (m : List Int) (hx : a.eval x = vx) (hm : Lst w vx m)
    (hl : l.length ≤ 1000000) (hml : m.length ≤ 1000000) (hbase : base ≤ w.heap.size)
    (h : ∀ v' w', Own w' base v' (l ++ m) → Below base w w' → w.grownBy w' v.ownBlock → wpList Try.prog ops Q rest (a.put o.dst v') w') : wpList Try.prog ops Q (o :: rest) a w := by
  obtain ⟨i0, hi, hz0, hz1, hz2⟩ := info_parts info_u64
  rcases hm.form with ⟨rfl, rfl⟩ | ⟨ad, c, rfl⟩
  · skip
    refine wpList_append_own_none hgd s x _ ho base 22 i0 1 Try.underlying36 hi v l.length (vs l) hs hown.row hx ?_
    exact h _ _ (by rw [List.append_nil]; exact hown) (Below.refl _ _) (grown_below (Below.refl _ _))
  · refine wpList_append_own w hgd s x _ ho base 22 i0 (.int .u64 0) 1 8 Try.underlying36 hi hz0 hz1 hz2 rfl (by omega) v l.length (vs l) hs hown.row ad m.length c (vs m) hx (by rw [vs_len]; omega) ?_ (fun u hu => vs_one hu) (by unfold maxLen; omega) (by omega) hbase ?_
    · intro j u hj
      have hjn : j < m.length := by
        have := (List.getElem?_eq_some_iff.1 hj).1; rw [vs_len] at this; exact this
      rw [vs_at hjn] at hj
      cases hj
      obtain ⟨b1, o1, c1, e1, h1⟩ := hm.cells j hjn
      cases e1
      rw [Go.WideShapes.add_plain]
      exact h1
    · intro v' w' hown' hg _
      refine h v' w' ⟨?_, ?_⟩ ((Below.refl _ _).grown hg hbase (fun k e => (hown.row.lt k e).1)) hg
      · rw [List.length_append, show vs (l ++ m) = vs l ++ vs m by simp [vs]]; exact hown'
      · intro y hy
        rcases List.mem_append.1 hy with hy | hy
        · exact hown.us y hy
        · exact hm.us y hy
/-- 'make([]uint64, n)'. -/
theorem append_all_step {ops : Array Oper} {o : Oper} {a : Act} {K : Act → World → Prop} {Q : Exit → Act → World → Prop} {E : Prop} {w : World} (hgd : o.guard = none) (s x : Operand)
    (ho : o.op = .call { callee := .builtin .append, args := #[s, x], argTypes := #[36, 36] })
    (base : Nat) (v : Value) (l : List Int) (hs : a.eval s = v) (hown : Own w base v l) (vx : Value) (m : List Int) (hx : a.eval x = vx) (hm : Lst w vx m)
    (hl : l.length ≤ 1000000) (hml : m.length ≤ 1000000) (hbase : base ≤ w.heap.size)
    (h : ∀ v' w', Own w' base v' (l ++ m) → Below base w w' → w.grownBy w' v.ownBlock → K (a.put o.dst v') w') : if Region.wanted o (yielded ops a.tmps) = true then Oper.wp Try.prog o a w K Q else E :=
  step_of hgd (append_all_g hgd s x ho base v l hs hown vx m hx hm hl hml hbase fun v' w' h1 h2 h3 => ⟨rfl, h v' w' h1 h2 h3⟩)
theorem append_one_step {ops : Array Oper} {o : Oper} {a : Act} {K : Act → World → Prop} {Q : Exit → Act → World → Prop} {E : Prop} {w : World} (hgd : o.guard = none) (s x : Operand)
    (ho : o.op = .call { callee := .builtin .append, args := #[s, x], argTypes := #[36, 36] })
    (base : Nat) (v : Value) (l : List Int) (hs : a.eval s = v) (hown : Own w base v l) (n : Int) (hn : U n) (H : Nat) (hx : a.eval x = .slice (some ⟨H, 0, none⟩) 1 1) (hc : w.cell? ⟨H, 0, none⟩ = some (.int .u64 n))
    (hl : l.length ≤ 1000000) (hbase : base ≤ w.heap.size)
    (h : ∀ v' w', Own w' base v' (l ++ [n]) → Below base w w' → K (a.put o.dst v') w') : if Region.wanted o (yielded ops a.tmps) = true then Oper.wp Try.prog o a w K Q else E := by
  obtain ⟨i0, hi, hz0, hz1, hz2⟩ := info_parts info_u64
  refine step_append_lies w hgd s x _ ho base 22 i0 (.int .u64 0) 1 8 Try.underlying36 hi hz0 hz1 hz2 rfl (by omega) v l.length (vs l) hs hown.row ⟨H, 0, none⟩ 1 1 [.int .u64 n] hx rfl ?_ (fun u hu => by simp at hu; subst hu; rfl) (by omega) (by unfold maxLen; omega) (by omega) hbase w.heap.size rfl ?_
  · intro j u hj
    match j, hj with
    | 0, hj => simp at hj; subst hj; simpa [Addr.add] using hc
  · intro g cap w' hown' hg _ _
    exact h _ w' ⟨by rw [vs_snoc]; simpa using hown', hown.us.snoc hn⟩ ((Below.refl _ _).grown hg hbase (fun k e => (hown.row.lt k e).1))
theorem OwnM.snoc {w w' : World} {base g c : Nat} {v rv : Value} {rs : Nat → Value} {M : List (List Int)} {r : List Int} (hown : OwnM w base v rs M) (hr : Own w base rv r)
    (hap : ∀ k, k < M.length → ∀ b, (rs k).ownBlock = some b → rv.ownBlock ≠ some b) (hoff : ∀ b, rv.ownBlock = some b → v.ownBlock ≠ some b)
    (ho : w'.ownsRow base 36 1 (.slice (some ⟨g, 0, none⟩) (M.length + 1) c) (M.length + 1) (rowsOf rs M.length ++ [rv])) (hg : v.ownBlock = some g ∨ g = w.heap.size) (hgr : w.grownBy w' v.ownBlock) :
    OwnM w' base (.slice (some ⟨g, 0, none⟩) (M.length + 1) c) (rsSet rs M.length rv) (M ++ [r]) := by
  have hle : (M ++ [r]).length = M.length + 1 := by simp
  have hvl : rowsOf (rsSet rs M.length rv) (M.length + 1) = rowsOf rs M.length ++ [rv] := rowsOf_snoc rs M.length rv
  have hrg : rv.ownBlock ≠ some g := fun e => by
    rcases hg with e2 | e2
    · exact hoff g e e2
    · have := (hr.row.lt g e).2; omega
  have hkg : ∀ k, k < M.length → (rs k).ownBlock ≠ some g := fun k hk e => by
    rcases hg with e2 | e2
    · exact hown.off k hk g e e2
    · have := ((hown.row k hk).row.lt g e).2; omega
  have hrow : ∀ i (hi : i < (M ++ [r]).length), Own w' base (rsSet rs M.length rv i) (M ++ [r])[i] := fun i hi => by
    rw [hle] at hi
    by_cases e : i = M.length
    · subst e
      rw [rsSet_at, List.getElem_append_right (Nat.le_refl _)]
      simp only [Nat.sub_self, List.getElem_singleton]
      exact hr.kept hgr (none_or fun b hb hb2 => hoff b hb2 hb)
    · have hi2 : i < M.length := by omega
      rw [rsSet_off rs rv e, List.getElem_append_left hi2]
      exact (hown.row i hi2).kept hgr (none_or fun b hb hb2 => hown.off i hi2 b hb2 hb)
  refine ⟨?_, hrow, fun i j hi hj hne b hb => ?_, fun i hi b hb => ?_⟩
  · rw [hle, hvl]; exact ho
  · rw [hle] at hi hj
    by_cases e1 : i = M.length
    · rw [e1, rsSet_at] at hb
      rw [rsSet_off rs rv (by omega)]
      intro e2
      exact hap j (by omega) b e2 hb
    · rw [rsSet_off rs rv e1] at hb
      by_cases e2 : j = M.length
      · rw [e2, rsSet_at]; exact hap i (by omega) b hb
      · rw [rsSet_off rs rv e2]; exact hown.apart i j (by omega) (by omega) hne b hb
  · rw [hle] at hi
    intro e2
    have e3 : g = b := by simpa [Value.ownBlock] using e2
    subst e3
    by_cases e1 : i = M.length
    · rw [e1, rsSet_at] at hb; exact hrg hb
    · rw [rsSet_off rs rv e1] at hb; exact hkg i (by omega) hb
/-- A row of the call's own is appended, in a region that draws its order. -/
theorem append_mat_step {ops : Array Oper} {o : Oper} {a : Act} {K : Act → World → Prop} {Q : Exit → Act → World → Prop} {E : Prop} {w : World} (hgd : o.guard = none) (s x : Operand)
    (ho : o.op = .call { callee := .builtin .append, args := #[s, x], argTypes := #[23, 23] })
    (base : Nat) (v : Value) (rs : Nat → Value) (M : List (List Int)) (hs : a.eval s = v) (hown : OwnM w base v rs M) (rv : Value) (r : List Int) (hr : Own w base rv r)
    (hap : ∀ k, k < M.length → ∀ b, (rs k).ownBlock = some b → rv.ownBlock ≠ some b) (hoff : ∀ b, rv.ownBlock = some b → v.ownBlock ≠ some b)
    (H : Nat) (hx : a.eval x = .slice (some ⟨H, 0, none⟩) 1 1) (hc : w.cell? ⟨H, 0, none⟩ = some rv) (hl : M.length ≤ 1000000) (hbase : base ≤ w.heap.size)
    (h : ∀ g c w', OwnM w' base (.slice (some ⟨g, 0, none⟩) (M.length + 1) c) (rsSet rs M.length rv) (M ++ [r]) → w.grownBy w' v.ownBlock → K (a.put o.dst (.slice (some ⟨g, 0, none⟩) (M.length + 1) c)) w') : if Region.wanted o (yielded ops a.tmps) = true then Oper.wp Try.prog o a w K Q else E := by
  obtain ⟨i0, hi, hz0, hz1, hz2⟩ := info_parts info_row
  obtain ⟨ra, rc, re⟩ := hr.slice
  refine step_append_lies w hgd s x _ ho base 36 i0 (.slice none 0 0) 1 24 Try.underlying23 hi hz0 hz1 hz2 rfl (by omega) v M.length (rowsOf rs M.length) hs hown.outer ⟨H, 0, none⟩ 1 1 [rv] hx rfl ?_ (fun u hu => by simp at hu; subst hu; rw [re]; rfl) (by omega) (by unfold maxLen; omega) (by omega) hbase w.heap.size rfl ?_
  · intro j u hj
    match j, hj with
    | 0, hj => simp at hj; subst hj; simpa [Addr.add] using hc
  · intro g cap w' hown' hg hgg _
    exact h g cap w' (hown.snoc hr hap hoff hown' hgg hg) hg
theorem at_new' {w : World} {o : Obj} {g : Nat} (h : g = w.heap.size) : (w.alloc o).heap[g]? = some o := by subst h; exact heap_alloc_new w o
theorem at_drew {w : World} {x : Obj} {g : Nat} (h : w.heap[g]? = some x) : w.drew.heap[g]? = some x := h
theorem at_old' {w : World} {o x : Obj} {g : Nat} (h : w.heap[g]? = some x) : (w.alloc o).heap[g]? = some x := by
  rw [heap_alloc_old _ _ (by
    rcases Nat.lt_or_ge g w.heap.size with h' | h'
    · exact h'
    · rw [Array.getElem?_eq_none h'] at h; cases h)]
  exact h
theorem empty_at {w : World} {base g : Nat} (hb : base ≤ g) (hg : w.heap[g]? = some (.cells #[] 22 (0, 0))) : Own w base (.slice (some ⟨g, 0, none⟩) 0 0) [] :=
  ⟨⟨rfl, .inr ⟨g, 0, #[], rfl, hb, hg, Nat.le_refl _, by unfold maxLen; omega, rfl, rfl⟩⟩, fun y hy => by simp at hy⟩

def wideL (M : List (List Int)) (V : List Int) : List (List Int) := (List.range M.length).map fun i => M.getD i [] ++ [V.getD i 0]
theorem wideL_len (M : List (List Int)) (V : List Int) : (wideL M V).length = M.length := by simp [wideL]
theorem wideL_take {M : List (List Int)} {V : List Int} {i : Nat} (h : i < M.length) (h2 : i < V.length) : (wideL M V).take (i + 1) = (wideL M V).take i ++ [M[i] ++ [V[i]]] := by
  rw [List.take_succ_eq_append_getElem (by rw [wideL_len]; exact h)]
  simp [wideL, h, h2]
theorem wideL_rows {M : List (List Int)} {V : List Int} (hv : Vld M) : ∀ i (h : i < (wideL M V).length), (wideL M V)[i].length = cols M + 1 := fun i h => by
  have h2 : i < M.length := by rw [wideL_len] at h; exact h
  simp only [wideL, List.getElem_map, List.getElem_range, List.length_append, List.length_singleton]
  rw [getD_row h2, (hv.1 i h2).1]
theorem cols_wideL {M : List (List Int)} {V : List Int} (hv : Vld M) (h : 0 < M.length) : cols (wideL M V) = cols M + 1 := by
  rw [cols_at (by rw [wideL_len]; exact h), wideL_rows hv]
/-- The solution after i pivots. -/
def sx (R : List (List Int)) (c : List Nat) (n : Nat) : Nat → List Int
  | 0 => List.replicate n 0
  | i + 1 => (sx R c n i).set (c.getD i 0) ((R.getD i []).getD n 0)
theorem sx_len (R : List (List Int)) (c : List Nat) (n : Nat) : ∀ i, (sx R c n i).length = n
  | 0 => by simp [sx]
  | i + 1 => by rw [sx, List.length_set]; exact sx_len R c n i
/-- What Solve returns. -/
structure SolOf (p : Int) (M : List (List Int)) (V : List Int) (fb : Bool) (X : List Int) : Prop where
  bad : ¬ (OkM p M ∧ V.length = M.length) → fb = false ∧ X = []
  good : OkM p M → V.length = M.length → ∃ R c, Elm p (wideL M V) (cols (wideL M V)) R c ∧ ((fb = true ∧ cols M ∉ c ∧ X = sx R c (cols M) c.length) ∨ (fb = false ∧ X = [] ∧ cols M ∈ c))

set_option maxRecDepth 100000 in
set_option maxHeartbeats 16000000 in
theorem kSolve_u (p : Int) [_hpU : U p] (v va : Value) (M : List (List Int)) (V : List Int) (w : World) (hM : MatR w v M) (hV : Lst w va V) (hn : M.length ≤ 100000) (hr : ∀ i (h : i < M.length), M[i].length ≤ 100000) (_hv : V.length ≤ 100000) :
    Calls Try.prog 24 #[.int .u64 p, v, va] w fun e w' => ∃ v1 fb X, e = .returned (.tuple #[v1, .bool fb]) ∧ Own w' w.heap.size v1 X ∧ SolOf p M V fb X ∧ Below w.heap.size w w' := by
  obtain ⟨a0, c0, rfl⟩ := hM.shape
  obtain ⟨a1, c1, rfl⟩ := hV.shape
  have HM := Lib.hid (And.intro hM (And.intro hV hr))
  clear hM hr hV
  by_cases hok : OkM p M
  · have hd : (known p && decide (Vld M)) = true := by rw [okM_dec, decide_eq_true hok]
    have h64 := hok.2.2
    have hc64 := hok.2.cols
    by_cases hl : V.length = M.length
    · have hne : ((V.length : Int) != (M.length : Int)) = false := by rw [hl]; simp
      have i1 : (M.length : Int) ≤ 64 := by omega
      have i2 : (cols M : Int) ≤ 64 := by omega
      obtain ⟨L, hL⟩ : ∃ L, L = wideL M V := ⟨_, rfl⟩
      have hLl : L.length = M.length := by rw [hL, wideL_len]
      have hLt : ∀ i (h : i < M.length) (h2 : i < V.length), L.take (i + 1) = L.take i ++ [M[i] ++ [V[i]]] := fun i h h2 => by rw [hL]; exact wideL_take h h2
      have HK := Lib.hid (And.intro hok (And.intro hd (And.intro hl (And.intro hLl (And.intro hLt hL)))))
      clear hok hd hl hL hLl hLt hc64
      go_enter Try.func24, Try.ntmps24
      go_upto_region 4 with (first
        | (go_at_call 64; refine (kok_u p _ M _ HM.out.1 hn HM.out.2.2).mono ?_; rintro e w1 ⟨rfl, hb1⟩; rw [HK.out.2.1])
        | (go_at_call 41; refine (kColumns_u _ M _ (HM.out.1.hold hb1.b) hn).mono ?_; rintro e w2 ⟨rfl, rfl⟩))
      have HB := Lib.hid hb1.b
      clear hb1
      go_wp2_with fail
      go_loopw [9, 10] (fun ov iv wr => ∃ (i : Nat) (rs : Nat → Value), iv = .int .i64 i ∧ i ≤ M.length ∧ OwnM wr w.heap.size ov rs (L.take i) ∧ Below w.heap.size w wr) (fun _ iv _ => M.length - (intOf iv).toNat)
      case atStart => exact ⟨0, fun _ => undef, rfl, Nat.zero_le _, empty_mat _ _ _ HB.out.size, Below.next (Nat.le_refl _) HB.out (Below.made (Nat.le_refl _) (Below.refl _ _) _)⟩
      case round =>
        obtain ⟨i, rs, rfl, hi, hown, hb⟩ := hrel
        have i0 : (0 : Int) ≤ (i : Int) := by omega
        by_cases hlt : i < M.length
        · have hlV : i < V.length := by have := HK.out.2.2.1; omega
          obtain ⟨b, o, c, rv, e, hc, hlr⟩ := HM.out.1.rows i hlt
          obtain ⟨rfl, rfl⟩ : a0 = some ⟨b, o, none⟩ ∧ c0 = c := by simp at e; exact e
          obtain ⟨b2, o2, c2, e2, hcv⟩ := HM.out.2.1.cells i hlV
          obtain ⟨rfl, rfl⟩ : a1 = some ⟨b2, o2, none⟩ ∧ c1 = c2 := by simp at e2; exact e2
          have hux := HM.out.2.1.us V[i] (List.getElem_mem hlV)
          have hrl := (HK.out.1.2.1 i hlt).2
          have htk := HK.out.2.2.2.2.1 i hlt hlV
          obtain ⟨X, hX⟩ : ∃ X, X = M[i] := ⟨_, rfl⟩
          obtain ⟨y, hy⟩ : ∃ y, y = V[i] := ⟨_, rfl⟩
          rw [← hX] at hlr hrl htk
          rw [← hy] at hcv hux htk
          have hlt2 : (L.take i).length = i := by rw [List.length_take, HK.out.2.2.2.1]; omega
          obtain ⟨ar, cr, rfl⟩ := hlr.shape
          have i3 : (i : Int) < (M.length : Int) := by omega
          have i4 : (i : Int) < (V.length : Int) := by omega
          have HW := Lib.hid (And.intro hown (And.intro hb (And.intro htk (And.intro hlr (And.intro hlt2 hrl)))))
          have G0 := fun (w' : World) (h : Below w.heap.size w w') => Below.hold h hc
          have G1 := fun (w' : World) (h : Below w.heap.size w w') => Below.hold h hcv
          clear hown hb htk hlr hlt2 hrl hX hy e e2 hc hcv hlt hlV
          go_wp2_with fail
          rename World => W
          have F : Below w.heap.size w W := HW.out.2.1
          go_region_held3 (fun w' => Below w.heap.size w w')
            (repeat (first | assumption | refine Below.drew ?_ | refine Below.made (Nat.le_refl _) ?_ _))
            (first
              | (refine append_all_step (by rfl) (.tmp 36) (.tmp 40) (by rfl) W.heap.size _ [] (by rfl) (empty_at (by first | (simp; done) | (simp; omega)) (by repeat (first | exact at_new' (by simp; done) | refine at_drew ?_ | refine at_old' ?_))) _ X (by rfl) (HW.out.2.2.2.1.hold (by repeat (first | assumption | refine Below.drew ?_ | refine Below.made (Nat.le_refl _) ?_ _))) (by simp) (by have := HW.out.2.2.2.2.2; omega) (by first | (simp; done) | (simp; omega)) ?_; intro v1 w1 hown1 hb1 hg1; have hs1 : Below w.heap.size w w1 := Below.trans (by repeat (first | assumption | refine Below.drew ?_ | refine Below.made (Nat.le_refl _) ?_ _)) (hb1.mono HW.out.2.1.size))
              | (refine append_one_step (by rfl) (.tmp 41) (.tmp 46) (by rfl) W.heap.size _ X (by rfl) (hown1.hold (by repeat (first | exact Below.refl _ _ | refine Below.drew ?_ | refine Below.made (Nat.le_refl _) ?_ _))) y inferInstance _ (by rfl) (by first | (go_simp; done) | exact grown_cell hg1 (by go_simp; done) (by simp [Value.ownBlock])) (by have := HW.out.2.2.2.2.2; omega) (by have := hb1.size; simp at this ⊢; omega) ?_; intro v2 w2 hown2 hb2; have hs2 : Below w.heap.size w w2 := Below.trans (by repeat (first | assumption | refine Below.drew ?_ | refine Below.made (Nat.le_refl _) ?_ _)) (hb2.mono HW.out.2.1.size); obtain ⟨a2, cap2, rfl⟩ := hown2.slice)
              | (refine append_mat_step (by rfl) (.tmp 35) (.tmp 48) (by rfl) w.heap.size _ rs (L.take i) (by rfl) (HW.out.1.hold (by repeat (first | exact Below.refl _ _ | refine Below.drew ?_ | refine Below.made (Nat.le_refl _) ?_ _ | refine Below.trans ?_ hb2 | refine Below.trans ?_ hb1))) _ (X ++ [y]) ((hown2.hold (by repeat (first | exact Below.refl _ _ | refine Below.drew ?_ | refine Below.made (Nat.le_refl _) ?_ _))).low HW.out.2.1.size) (HW.out.1.fresh hown2).1 (HW.out.1.fresh hown2).2 _ (by rfl) (by go_simp; done) (by rw [HW.out.2.2.2.2.1]; omega) (by have := HW.out.2.1.size; have := hb1.size; have := hb2.size; simp at *; omega) ?_; intro g4 c4 w4 hown4 hg4; have hs4 : Below w.heap.size w w4 := Below.grown (by repeat (first | assumption | refine Below.drew ?_ | refine Below.made (Nat.le_refl _) ?_ _)) hg4 (by have := HW.out.2.1.size; have := hs2.size; simp at *; omega) (fun b e => (HW.out.1.outer.lt b e).1))
              | fail)
          all_goals
            rw [← HW.out.2.2.1] at hown4
            go_wp2
            exact ⟨⟨i + 1, _, by go_num, by omega, by first | exact hown4 | (rw [HW.out.2.2.2.2.1] at hown4; exact hown4) | (simpa using hown4), hs4⟩, by simp [intOf]; omega⟩
        · obtain rfl : M.length = i := by omega
          rw [List.take_of_length_le (by rw [HK.out.2.2.2.1]; exact Nat.le_refl _)] at hown
          have HW := Lib.hid (And.intro hown hb)
          clear hown hb
          have hcw : ∀ h : 0 < M.length, cols L = cols M + 1 := fun h => by rw [HK.out.2.2.2.2.2]; exact cols_wideL HK.out.1.2 h
          have hrw : ∀ i (h : i < L.length), L[i].length = cols L := fun i h => by
            have h1 := HK.out.2.2.2.1
            rw [hcw (by omega)]
            have h2 := HK.out.2.2.2.2.2
            subst h2
            exact wideL_rows HK.out.1.2 i h
          have hcl : cols L ≤ 65 := by
            by_cases h : 0 < M.length
            · rw [hcw h]; omega
            · have h1 := HK.out.2.2.2.1
              have h2 : L = [] := List.length_eq_zero_iff.1 (by omega)
              rw [h2]; simp [cols]
          have HC := Lib.hid (And.intro hcw hrw)
          clear hcw hrw hlt hi
          go_upto_region 10 with (go_at_call 65; refine (keliminate_u p HK.out.1.1 _ L (cols L) _ HW.out.1.matR HC.out.2 rfl (by have := HK.out.2.2.2.1; omega) (by omega)).mono ?_; rintro _ wz ⟨v1, v2, rsR, R, c, rfl, hR, hc, helm, hbz⟩)
          obtain ⟨aR, cR, rfl⟩ := hR.matR.shape
          obtain ⟨ac, cc, rfl⟩ := hc.lst.shape
          have hRl := helm.mt.len
          have hLM := HK.out.2.2.2.1
          have i5 : c.length ≤ M.length := by have := helm.part.len; omega
          have HZ := Lib.hid (And.intro hR.matR (And.intro hc.lst (And.intro helm (And.intro (Below.next (Nat.le_refl _) HW.out.2 hbz) (And.intro hRl hLM)))))
          clear hR hc helm hbz hRl hLM
          go_wp2_with (at_make; refine make_zeros rfl (.tmp 56) (.tmp 56) rfl wz.heap.size (cols M) rfl rfl (by omega) (Nat.le_refl _) ?_; intro vx wx hownx hvx hbx; subst hvx)
          have HX := Lib.hid (And.intro hownx hbx)
          clear hownx hbx
          go_loopw [14] (fun iv wr => ∃ i : Nat, iv = .int .i64 i ∧ i ≤ c.length ∧ cols M ∉ c.take i ∧ Own wr wz.heap.size (.slice (some ⟨wz.heap.size, 0, none⟩) (cols M) (cols M)) (sx R c (cols M) i) ∧ Below wz.heap.size wz wr) (fun iv _ => c.length - (intOf iv).toNat)
          case atStart => exact ⟨0, rfl, Nat.zero_le _, by simp, HX.out.1, HX.out.2⟩
          case round =>
            obtain ⟨i, rfl, hi, hni, hx, hbi⟩ := hrel
            have i3 : (0 : Int) ≤ (i : Int) := by omega
            by_cases hlc : i < c.length
            · have i4 : (i : Int) < (c.length : Int) := by omega
              have hcw := HC.out.1 (by omega)
              have hRi : i < R.length := by have h1 := HZ.out.2.2.2.2.1; have h2 := HZ.out.2.2.2.2.2; omega
              obtain ⟨b, o, c1, rv, e, hcr, hlr⟩ := (HZ.out.1.hold hbi).rows i hRi
              obtain ⟨rfl, rfl⟩ : aR = some ⟨b, o, none⟩ ∧ cR = c1 := by simp at e; exact e
              obtain ⟨b2, o2, c2, e2, hcp⟩ := (HZ.out.2.1.hold hbi).cells i hlc
              obtain ⟨rfl, rfl⟩ : ac = some ⟨b2, o2, none⟩ ∧ cc = c2 := by simp at e2; exact e2
              have hrl := HZ.out.2.2.1.mt.row i hRi
              have hcn := HZ.out.2.2.1.part.lt i hlc
              by_cases htn : c[i] = cols M
              · have i8 : ((c[i] : Int) == (cols M : Int)) = true := by simp [htn]
                have hmem : cols M ∈ c := by rw [← htn]; exact List.getElem_mem hlc
                rw [htn] at hcp
                have HV := Lib.hid (And.intro hmem (Below.next (Nat.le_refl _) HZ.out.2.2.2.1 hbi))
                clear hx hbi hni hmem htn i8 e e2 hcr hlr hrl hcn hcw hRi
                go_wp2_with fail
                refine bodyPost_ret (results_tmp2 rfl _ _ _) rfl ?_
                exact ⟨_, false, [], rfl, Own.nil _ _, ⟨fun _ => ⟨rfl, rfl⟩, fun _ _ => ⟨R, c, by rw [← HK.out.2.2.2.2.2]; exact HZ.out.2.2.1, .inr ⟨rfl, rfl, HV.out.1⟩⟩⟩, HV.out.2⟩
              · have hni2 : cols M ∉ c.take (i + 1) := by
                  rw [List.take_succ_eq_append_getElem hlc]
                  simp only [List.mem_append, List.mem_singleton, not_or]
                  exact ⟨hni, fun e => htn e.symm⟩
                have hcm : c[i] < cols M := by omega
                obtain ⟨b3, o3, c3, e3, hcx⟩ := hlr.cells (cols M) (by omega)
                rw [e3] at hcr
                have hux := hlr.us (R[i][cols M]'(by omega)) (List.getElem_mem _)
                have hsx : sx R c (cols M) (i + 1) = (sx R c (cols M) i).set c[i] (R[i][cols M]'(by omega)) := by
                  rw [sx, Po.getD_nat hlc, getD_row hRi, getD_lt _ (by omega)]
                have hcell := hx.cell (i := c[i]) (by rw [sx_len]; exact hcm)
                have hthaw := hx.thawed c[i]
                obtain ⟨x0, hx0⟩ : ∃ x0, x0 = (sx R c (cols M) i)[c[i]]'(by rw [sx_len]; exact hcm) := ⟨_, rfl⟩
                rw [← hx0] at hcell
                clear hx0
                obtain ⟨y, hy⟩ : ∃ y, y = R[i][cols M]'(by omega) := ⟨_, rfl⟩
                rw [← hy] at hux hcx hsx
                obtain ⟨t, ht⟩ : ∃ t, t = c[i] := ⟨_, rfl⟩
                rw [← ht] at hcp hsx hcell hthaw hcm htn
                have i5 : (0 : Int) ≤ (t : Int) := by omega
                have i6 : (t : Int) < (cols M : Int) := by omega
                have i7 : (i : Int) < (R.length : Int) := by omega
                have i8 : ((t : Int) == (cols M : Int)) = false := by simp; omega
                have i9 : (cols M : Int) < (R[i].length : Int) := by omega
                obtain ⟨lr, hlr2⟩ : ∃ lr, lr = R[i].length := ⟨_, rfl⟩
                rw [← hlr2] at hcr i9
                have HV := Lib.hid (And.intro hx (And.intro hbi (And.intro hsx hni2)))
                clear hx hbi hsx hni2 hni hy ht e e2 e3 hlr hrl hRi hcn hcw htn hlr2
                go_wp2_with fail
                have k0 := fun q : NwAt wr => q.nw.hold hcr
                have k1 := fun q : NwAt wr => q.nw.hold hcp
                have k2 := fun q : NwAt wr => q.nw.hold hcx
                have k3 := fun q : NwAt wr => q.nw.hold hcell
                have k4 := fun q : NwAt wr => q.nw.holdf hthaw
                refine from_here ?_
                intro q
                refine wp_region_nwt 13 (by kernel_rfl) (by kernel_rfl) ?_
                simp only [List.take_succ_cons, List.take_zero, List.drop_succ_cons, List.drop_zero]
                repeat (go_big_quiet_step ((first | fail)))
                refine wpQuiet_nil ?_
                clear q
                rintro _ ⟨q, rfl⟩
                have j3 := k3 q
                have j4 := k4 q
                clear k0 k1 k2 k3 k4
                have hs := (HV.out.1.hold q.nw.b).set t y
                rw [← HV.out.2.2.1] at hs
                have HSet := Lib.hid (And.intro hs.1 (Below.wrote (Below.next (Nat.le_refl _) HV.out.2.1 q.nw.b) (Nat.le_refl _) (Nat.le_trans HV.out.2.1.size q.nw.b.size) (HV.out.1.hold q.nw.b) hs.2))
                clear hs
                go_wp2
                exact ⟨⟨i + 1, by go_num, by omega, HV.out.2.2.2, HSet.out.1, HSet.out.2⟩, by simp [intOf]; omega⟩
            · obtain rfl : c.length = i := by omega
              rw [List.take_of_length_le (Nat.le_refl _)] at hni
              have HV := Lib.hid (And.intro hx (And.intro hni (Below.next (Nat.le_refl _) HZ.out.2.2.2.1 hbi)))
              clear hx hni hbi
              go_wp2_with fail
              refine bodyPost_ret (results_tmp2 rfl _ _ _) rfl ?_
              exact ⟨_, true, _, rfl, HV.out.1.low HZ.out.2.2.2.1.size, ⟨fun h => absurd ⟨HK.out.1, HK.out.2.2.1⟩ h, fun _ _ => ⟨R, c, by rw [← HK.out.2.2.2.2.2]; exact HZ.out.2.2.1, .inl ⟨rfl, HV.out.2.1, rfl⟩⟩⟩, HV.out.2.2⟩
    · have hne : ((V.length : Int) != (M.length : Int)) = true := bne_iff_ne.2 (show (V.length : Int) ≠ (M.length : Int) by omega)
      have HK := Lib.hid (And.intro hd hl)
      clear hok hd hl hc64
      go_enter Try.func24, Try.ntmps24
      go_wp2_with (go_at_call 64; refine (kok_u p _ M _ HM.out.1 hn HM.out.2.2).mono ?_; rintro e w1 ⟨rfl, hb1⟩; rw [HK.out.1])
      refine bodyPost_ret (results_tmp2 rfl _ _ _) rfl ?_
      exact ⟨_, false, [], rfl, Own.nil _ _, ⟨fun _ => ⟨rfl, rfl⟩, fun _ h => absurd h HK.out.2⟩, hb1.b⟩
  · have hd : (known p && decide (Vld M)) = false := by rw [okM_dec, decide_eq_false hok]
    have HK := Lib.hid (And.intro hd hok)
    clear hd hok
    go_enter Try.func24, Try.ntmps24
    go_wp2_with (go_at_call 64; refine (kok_u p _ M _ HM.out.1 hn HM.out.2.2).mono ?_; rintro e w1 ⟨rfl, hb1⟩; rw [HK.out.1])
    refine bodyPost_ret (results_tmp2 rfl _ _ _) rfl ?_
    exact ⟨_, false, [], rfl, Own.nil _ _, ⟨fun _ => ⟨rfl, rfl⟩, fun h _ => absurd h HK.out.2⟩, hb1.b⟩
end Go.Proofs.Ytdcdaclkeocfpaa
