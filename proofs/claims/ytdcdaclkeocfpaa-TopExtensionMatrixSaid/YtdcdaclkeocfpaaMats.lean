/- Matrices in memory: a list of rows that is read, and one of the call's own, whose rows are the call's own and apart. -/
import Derived.Test.YtdcdaclkeocfpaaLstI
import Derived.Test.YtdcdaclkeocfpaaOB
namespace Go.Proofs.Ytdcdaclkeocfpaa
open Go.RowKit

theorem info_row : (Try.prog.info? 36).map (fun i => (i.zero, i.size, i.bytes)) = some (some (.slice none 0 0), 1, 24) := by kernel_rfl
/-- The value v reads as the matrix M. -/
structure MatR (w : World) (v : Value) (M : List (List Int)) : Prop where
  form : (v = .slice none 0 0 ∧ M = []) ∨ ∃ a c, v = .slice (some a) M.length c
  rows : ∀ i (h : i < M.length), ∃ b o c rv, v = .slice (some ⟨b, o, none⟩) M.length c ∧ w.cell? ⟨b, o + i, none⟩ = some rv ∧ Lst w rv M[i]
theorem MatR.hold {w w' : World} {v : Value} {M : List (List Int)} (h : MatR w v M) (k : Below w.heap.size w w') : MatR w' v M :=
  ⟨h.form, fun i hi => by obtain ⟨b, o, c, rv, e, hc, hl⟩ := h.rows i hi; exact ⟨b, o, c, rv, e, Below.hold k hc, hl.hold k⟩⟩
theorem MatR.shape {w : World} {v : Value} {M : List (List Int)} (h : MatR w v M) : ∃ a c, v = .slice a M.length c := by
  rcases h.form with ⟨rfl, rfl⟩ | ⟨a, c, rfl⟩
  · exact ⟨_, _, rfl⟩
  · exact ⟨_, _, rfl⟩
theorem MatR.nil (w : World) : MatR w (.slice none 0 0) [] := ⟨.inl ⟨rfl, rfl⟩, fun i hi => by simp at hi⟩

def rowsOf (rs : Nat → Value) (n : Nat) : List Value := (List.range n).map rs
def rsSet (rs : Nat → Value) (i : Nat) (v : Value) : Nat → Value := fun k => if k = i then v else rs k
theorem rsSet_at (rs : Nat → Value) (i : Nat) (v : Value) : rsSet rs i v i = v := if_pos rfl
theorem rsSet_off (rs : Nat → Value) {i k : Nat} (v : Value) (h : k ≠ i) : rsSet rs i v k = rs k := if_neg h
theorem rowsOf_len (rs : Nat → Value) (n : Nat) : (rowsOf rs n).length = n := by simp [rowsOf]
theorem rowsOf_at (rs : Nat → Value) {n i : Nat} (h : i < n) : (rowsOf rs n)[i]? = some (rs i) := by simp [rowsOf, h]
theorem rowsOf_set (rs : Nat → Value) (n i : Nat) (v : Value) : (rowsOf rs n).set i v = rowsOf (rsSet rs i v) n := by
  refine List.ext_getElem (by simp [rowsOf]) fun k h1 h2 => ?_
  rw [List.getElem_set]
  simp only [rowsOf, List.getElem_map, List.getElem_range, rsSet]
  by_cases e : i = k
  · rw [if_pos e, if_pos e.symm]
  · rw [if_neg e, if_neg (Ne.symm e)]
theorem rowsOf_snoc (rs : Nat → Value) (n : Nat) (v : Value) : rowsOf (rsSet rs n v) (n + 1) = rowsOf rs n ++ [v] := by
  unfold rowsOf
  rw [List.range_succ, List.map_append]
  congr 1
  · exact List.map_congr_left fun k hk => rsSet_off rs v (by have := List.mem_range.1 hk; omega)
  · simp [rsSet]

/-- The value v owns the matrix M; rs are the rows' values. -/
structure OwnM (w : World) (base : Nat) (v : Value) (rs : Nat → Value) (M : List (List Int)) : Prop where
  outer : w.ownsRow base 36 1 v M.length (rowsOf rs M.length)
  row : ∀ i (h : i < M.length), Own w base (rs i) M[i]
  apart : ∀ i j, i < M.length → j < M.length → i ≠ j → ∀ g, (rs i).ownBlock = some g → (rs j).ownBlock ≠ some g
  off : ∀ i, i < M.length → ∀ g, (rs i).ownBlock = some g → v.ownBlock ≠ some g
theorem Own.slice {w : World} {base : Nat} {v : Value} {l : List Int} (h : Own w base v l) : ∃ a c, v = .slice a l.length c := h.lst.shape
theorem OwnM.nil (w : World) (base : Nat) (rs : Nat → Value) : OwnM w base (.slice none 0 0) rs [] :=
  ⟨World.ownsRow_nil _ _ _ _, fun _ h => absurd h (Nat.not_lt_zero _), fun _ _ h => absurd h (Nat.not_lt_zero _), fun _ h => absurd h (Nat.not_lt_zero _)⟩
theorem empty_mat (W : World) (base : Nat) (rs : Nat → Value) (hb : base ≤ W.heap.size) : OwnM (W.alloc (.cells #[] 36)) base (.slice (some ⟨W.heap.size, 0, none⟩) 0 0) rs [] :=
  ⟨World.ownsRow_made W #[] 0 hb (by unfold maxLen; omega) rfl, fun _ h => absurd h (Nat.not_lt_zero _), fun _ _ h => absurd h (Nat.not_lt_zero _), fun _ h => absurd h (Nat.not_lt_zero _)⟩
theorem OwnM.cases {w : World} {base : Nat} {v : Value} {rs : Nat → Value} {M : List (List Int)} (h : OwnM w base v rs M) :
    (v = .slice none 0 0 ∧ M = []) ∨ ∃ g cap, v = .slice (some ⟨g, 0, none⟩) M.length cap ∧ base ≤ g ∧ g < w.heap.size ∧ M.length ≤ cap ∧ cap ≤ maxLen := by
  rcases h.outer.2 with ⟨e, e2⟩ | ⟨g, cap, cur, rfl, hb, hg, hn, hm, _⟩
  · exact .inl ⟨e, List.length_eq_zero_iff.1 e2⟩
  · exact .inr ⟨g, cap, rfl, hb, (h.outer.lt g rfl).2, hn, hm⟩
theorem OwnM.len {w : World} {base n c : Nat} {a : Option Addr} {rs : Nat → Value} {M : List (List Int)} (h : OwnM w base (.slice a n c) rs M) : M.length = n := by
  rcases h.cases with ⟨e, e2⟩ | ⟨g, cap, e, _⟩
  · cases e; rw [e2]; rfl
  · cases e; rfl
theorem OwnM.cell {w : World} {base g n c : Nat} {rs : Nat → Value} {M : List (List Int)} (h : OwnM w base (.slice (some ⟨g, 0, none⟩) n c) rs M) {i : Nat} (hi : i < M.length) : w.cell? ⟨g, i, none⟩ = some (rs i) := by
  obtain rfl := h.len
  rw [h.outer.cellAt i (by omega)]
  exact rowsOf_at rs hi
theorem OwnM.thawed {w : World} {base g n c : Nat} {rs : Nat → Value} {M : List (List Int)} (h : OwnM w base (.slice (some ⟨g, 0, none⟩) n c) rs M) (i : Nat) : w.frozen? ⟨g, i, none⟩ = false := by
  obtain rfl := h.len
  exact h.outer.frozenAt i
theorem OwnM.matR {w : World} {base : Nat} {v : Value} {rs : Nat → Value} {M : List (List Int)} (h : OwnM w base v rs M) : MatR w v M := by
  refine ⟨?_, fun i hi => ?_⟩
  · rcases h.cases with e | ⟨g, cap, rfl, _⟩
    · exact .inl e
    · exact .inr ⟨_, _, rfl⟩
  · rcases h.cases with ⟨rfl, rfl⟩ | ⟨g, cap, rfl, _⟩
    · simp at hi
    · exact ⟨g, 0, cap, rs i, rfl, by rw [Nat.zero_add]; exact h.cell hi, (h.row i hi).lst⟩
theorem none_or {o r : Option Nat} (h : ∀ g, r = some g → o ≠ some g) : o = none ∨ o ≠ r := by
  cases o with
  | none => exact .inl rfl
  | some g => exact .inr fun e => h g e.symm rfl
theorem OwnM.kept {w w' : World} {base : Nat} {v : Value} {rs : Nat → Value} {M : List (List Int)} {r : Option Nat} (h : OwnM w base v rs M) (k : w.grownBy w' r) (hv : ∀ g, r = some g → v.ownBlock ≠ some g) (hr : ∀ i, i < M.length → ∀ g, r = some g → (rs i).ownBlock ≠ some g) : OwnM w' base v rs M :=
  ⟨h.outer.kept k (none_or hv), fun i hi => (h.row i hi).kept k (none_or (hr i hi)), h.apart, h.off⟩
theorem OwnM.hold {w w' : World} {base : Nat} {v : Value} {rs : Nat → Value} {M : List (List Int)} (h : OwnM w base v rs M) (k : Below w.heap.size w w') : OwnM w' base v rs M :=
  h.kept (grown_of_below k) (fun g e => by cases e) fun _ _ g e => by cases e
theorem OwnM.low {w : World} {base base' : Nat} {v : Value} {rs : Nat → Value} {M : List (List Int)} (h : OwnM w base v rs M) (hb : base' ≤ base) : OwnM w base' v rs M := by
  refine ⟨⟨h.outer.1, ?_⟩, fun i hi => (h.row i hi).low hb, h.apart, h.off⟩
  rcases h.outer.2 with e | ⟨g, cap, cur, e, hg, r⟩
  · exact .inl e
  · exact .inr ⟨g, cap, cur, e, by omega, r⟩
/-- Row i has become r. -/
theorem OwnM.upd {w w' : World} {base : Nat} {v : Value} {rs : Nat → Value} {M : List (List Int)} (h : OwnM w base v rs M) {i : Nat} (hi : i < M.length) {r : List Int} (hr : Own w' base (rs i) r) (k : w.grownBy w' (rs i).ownBlock) : OwnM w' base v rs (M.set i r) := by
  refine ⟨?_, fun j hj => ?_, ?_, ?_⟩
  · rw [List.length_set]
    exact h.outer.kept k (none_or (h.off i hi))
  · rw [List.length_set] at hj
    rw [List.getElem_set]
    by_cases e : i = j
    · subst e; rw [if_pos rfl]; exact hr
    · rw [if_neg e]
      exact (h.row j hj).kept k (none_or fun g hg => h.apart i j hi hj e g hg)
  · rw [List.length_set]; exact h.apart
  · rw [List.length_set]; exact h.off
/-- One number of row i is stored. -/
theorem OwnM.setAt {w : World} {base g n c : Nat} {v : Value} {rs : Nat → Value} {M : List (List Int)} (h : OwnM w base v rs M) {i : Nat} (hi : i < M.length) (e : rs i = .slice (some ⟨g, 0, none⟩) n c) (j : Nat) (x : Int) [hx : U x] :
    OwnM (w.setCell ⟨g, j, none⟩ (.int .u64 x)) base v rs (M.set i (M[i].set j x)) ∧ w.grownBy (w.setCell ⟨g, j, none⟩ (.int .u64 x)) (some g) := by
  have h1 := h.row i hi
  rw [e] at h1
  have h2 := h1.set j x
  exact ⟨h.upd hi (by rw [e]; exact h2.1) (by rw [e]; exact h2.2), h2.2⟩
/-- A row of the call's own is put at place i. -/
theorem OwnM.setRow {w : World} {base g n c : Nat} {rs : Nat → Value} {M : List (List Int)} (h : OwnM w base (.slice (some ⟨g, 0, none⟩) n c) rs M) {i : Nat} {rv : Value} {r : List Int} (hr : Own w base rv r)
    (hap : ∀ k, k < M.length → k ≠ i → ∀ b, (rs k).ownBlock = some b → rv.ownBlock ≠ some b) (hoff : rv.ownBlock ≠ some g) :
    OwnM (w.setCell ⟨g, i, none⟩ rv) base (.slice (some ⟨g, 0, none⟩) n c) (rsSet rs i rv) (M.set i r) ∧ w.grownBy (w.setCell ⟨g, i, none⟩ rv) (some g) := by
  obtain rfl := h.len
  obtain ⟨h1, h2⟩ := h.outer.stored i rv
  refine ⟨⟨?_, fun j hj => ?_, fun j k hj hk hne b hb => ?_, fun j hj b hb => ?_⟩, h2⟩
  · rw [List.length_set, ← rowsOf_set]; exact h1
  · rw [List.length_set] at hj
    rw [List.getElem_set]
    by_cases e : i = j
    · subst e
      rw [if_pos rfl, rsSet_at]
      exact hr.kept h2 (.inr hoff)
    · rw [if_neg e, rsSet_off rs rv (Ne.symm e)]
      exact (h.row j hj).kept h2 (none_or fun b hb hb2 => by cases hb; exact h.off j hj g hb2 rfl)
  · rw [List.length_set] at hj hk
    by_cases e1 : j = i
    · subst e1
      rw [rsSet_at] at hb
      rw [rsSet_off rs rv (Ne.symm hne)]
      intro e2
      exact hap k hk (Ne.symm hne) b e2 hb
    · rw [rsSet_off rs rv e1] at hb
      by_cases e2 : k = i
      · subst e2; rw [rsSet_at]; exact hap j hj e1 b hb
      · rw [rsSet_off rs rv e2]; exact h.apart j k hj hk hne b hb
  · rw [List.length_set] at hj
    by_cases e1 : j = i
    · subst e1
      rw [rsSet_at] at hb
      intro e2; cases e2; exact hoff hb
    · rw [rsSet_off rs rv e1] at hb; exact h.off j hj b hb
/-- The rows a and k are exchanged. -/
def swapL (M : List (List Int)) (a k : Nat) : List (List Int) := (List.range M.length).map fun i => M.getD (if i = a then k else if i = k then a else i) []
theorem swapL_len (M : List (List Int)) (a k : Nat) : (swapL M a k).length = M.length := by simp [swapL]
theorem OwnM.swap {w : World} {base g n c : Nat} {rs : Nat → Value} {M : List (List Int)} (h : OwnM w base (.slice (some ⟨g, 0, none⟩) n c) rs M) {a k : Nat} (ha : a < M.length) (hk : k < M.length) :
    OwnM ((w.setCell ⟨g, a, none⟩ (rs k)).setCell ⟨g, k, none⟩ (rs a)) base (.slice (some ⟨g, 0, none⟩) n c) (fun i => rs (if i = a then k else if i = k then a else i)) (swapL M a k) ∧ w.grownBy ((w.setCell ⟨g, a, none⟩ (rs k)).setCell ⟨g, k, none⟩ (rs a)) (some g) := by
  obtain rfl := h.len
  obtain ⟨h1, h2⟩ := h.outer.stored a (rs k)
  obtain ⟨h3, h4⟩ := h1.stored k (rs a)
  have hg := grown_trans h2 h4
  have hlt : ∀ i, i < M.length → (if i = a then k else if i = k then a else i) < M.length := fun i hi => by split <;> (try split) <;> omega
  have hinj : ∀ i j, i ≠ j → (if i = a then k else if i = k then a else i) ≠ (if j = a then k else if j = k then a else j) := fun i j hne => by split <;> split <;> (try split) <;> (try split) <;> omega
  refine ⟨⟨?_, fun i hi => ?_, fun i j hi hj hne b hb => ?_, fun i hi b hb => ?_⟩, hg⟩
  · rw [swapL_len]
    have e : ((rowsOf rs M.length).set a (rs k)).set k (rs a) = rowsOf (fun i => rs (if i = a then k else if i = k then a else i)) M.length := by
      refine List.ext_getElem (by simp [rowsOf]) fun i h1 h2 => ?_
      rw [List.getElem_set, List.getElem_set]
      simp only [rowsOf, List.getElem_map, List.getElem_range]
      by_cases e1 : k = i
      · subst e1
        rw [if_pos rfl]
        by_cases e2 : k = a
        · rw [if_pos e2, e2]
        · rw [if_neg e2, if_pos rfl]
      · rw [if_neg e1]
        by_cases e2 : a = i
        · rw [if_pos e2, if_pos e2.symm]
        · rw [if_neg e2, if_neg (Ne.symm e2), if_neg (Ne.symm e1)]
    rw [← e]; exact h3
  · rw [swapL_len] at hi
    simp only [swapL, List.getElem_map, List.getElem_range]
    have h5 := hlt i hi
    rw [show M.getD (if i = a then k else if i = k then a else i) [] = M[(if i = a then k else if i = k then a else i)] by simp [List.getD, h5]]
    exact (h.row _ h5).kept hg (none_or fun b hb hb2 => by cases hb; exact h.off _ h5 g hb2 rfl)
  · rw [swapL_len] at hi hj
    exact h.apart _ _ (hlt i hi) (hlt j hj) (hinj i j hne) b hb
  · rw [swapL_len] at hi
    exact h.off _ (hlt i hi) b hb
end Go.Proofs.Ytdcdaclkeocfpaa
