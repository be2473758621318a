/- Matrices of numbers and what row operations on lists do; a matrix and a list of ints of the call's own, apart. -/
import Derived.Test.YtdcdaclkeocfpaaKC
import Derived.Test.YtdcdaclkeocfpaaRrefU
namespace Go.Proofs.Ytdcdaclkeocfpaa
open Go.RowKit Go.BigFrame
open Classical

/-- The matrix as a function. -/
def mf (p : Int) (L : List (List Int)) : Nat → Nat → Fin (Q p) := fun i j => ph p ((L.getD i []).getD j 0)
def Rdc (p : Int) (l : List Int) : Prop := ∀ y ∈ l, 0 ≤ y ∧ y < p
/-- m rows of n reduced numbers. -/
structure Mt (p : Int) (m n : Nat) (L : List (List Int)) : Prop where
  len : L.length = m
  row : ∀ i (h : i < L.length), L[i].length = n
  red : ∀ i (h : i < L.length), Rdc p L[i]
theorem getD_row {L : List (List Int)} {i : Nat} (h : i < L.length) : L.getD i [] = L[i] := by simp [List.getD, h]
theorem getD_out {L : List (List Int)} {i : Nat} (h : L.length ≤ i) : L.getD i [] = [] := by simp [List.getD, h]
theorem mf_row {p : Int} {L : List (List Int)} {i : Nat} (h : i < L.length) (j : Nat) : mf p L i j = ph p (L[i].getD j 0) := by unfold mf; rw [getD_row h]
theorem mf_out {p : Int} (hk : known p = true) {L : List (List Int)} {i : Nat} (h : L.length ≤ i) (j : Nat) : mf p L i j = 0 := by unfold mf; rw [getD_out h, getD_ge [] (by simp), ph_zero hk]
theorem mf_right {p : Int} (hk : known p = true) {m n : Nat} {L : List (List Int)} (hL : Mt p m n L) (i : Nat) {j : Nat} (h : n ≤ j) : mf p L i j = 0 := by
  by_cases hi : i < L.length
  · rw [mf_row hi, getD_ge _ (by rw [hL.row i hi]; exact h), ph_zero hk]
  · exact mf_out hk (by omega) j
theorem mf_set {p : Int} {L : List (List Int)} {i : Nat} (hi : i < L.length) (r : List Int) : mf p (L.set i r) = Po.rowSet (mf p L) i fun l => ph p (r.getD l 0) := funext fun a => funext fun b => by
  by_cases e : a = i
  · subst e
    rw [Po.rowSet_at, mf_row (by rw [List.length_set]; exact hi), List.getElem_set_self]
  · rw [Po.rowSet_off _ e]
    by_cases ha : a < L.length
    · rw [mf_row (by rw [List.length_set]; exact ha), List.getElem_set_ne (Ne.symm e), mf_row ha]
    · unfold mf
      rw [getD_out (by rw [List.length_set]; omega), getD_out (by omega)]
theorem swapL_at {L : List (List Int)} (a k : Nat) {i : Nat} (h : i < (swapL L a k).length) : (swapL L a k)[i] = L.getD (if i = a then k else if i = k then a else i) [] := by simp [swapL]
theorem mf_swap {p : Int} {L : List (List Int)} {a k : Nat} (ha : a < L.length) (hk : k < L.length) : mf p (swapL L a k) = Po.swap a k (mf p L) := funext fun i => funext fun j => by
  by_cases hi : i < L.length
  · rw [mf_row (by rw [swapL_len]; exact hi), swapL_at]
    unfold Po.swap
    split
    · rfl
    · split <;> rfl
  · unfold Po.swap
    rw [if_neg (by omega), if_neg (by omega)]
    unfold mf
    rw [getD_out (by rw [swapL_len]; omega), getD_out (by omega)]
theorem Mt.swap {p : Int} {m n : Nat} {L : List (List Int)} (h : Mt p m n L) {a k : Nat} (ha : a < L.length) (hk : k < L.length) : Mt p m n (swapL L a k) := by
  have e : ∀ i (hi : i < (swapL L a k).length), ∃ s, ∃ hs : s < L.length, (swapL L a k)[i] = L[s] := fun i hi => by
    have hi2 := hi
    rw [swapL_len] at hi2
    refine ⟨if i = a then k else if i = k then a else i, by split <;> (try split) <;> omega, ?_⟩
    rw [swapL_at, getD_row]
  refine ⟨by rw [swapL_len, h.len], fun i hi => ?_, fun i hi => ?_⟩
  · obtain ⟨s, hs, e2⟩ := e i hi
    rw [e2]; exact h.row s hs
  · obtain ⟨s, hs, e2⟩ := e i hi
    rw [e2]; exact h.red s hs
theorem Mt.set {p : Int} {m n : Nat} {L : List (List Int)} (h : Mt p m n L) {i : Nat} {r : List Int} (hr : r.length = n) (hd : Rdc p r) : Mt p m n (L.set i r) := by
  refine ⟨by rw [List.length_set, h.len], fun j hj => ?_, fun j hj => ?_⟩
  · rw [List.length_set] at hj
    rw [List.getElem_set]; split
    · exact hr
    · exact h.row j hj
  · rw [List.length_set] at hj
    rw [List.getElem_set]; split
    · exact hd
    · exact h.red j hj
/-- A row times a number, the first t elements. -/
def scK (p x : Int) (R : List Int) (t : Nat) : List Int := updK (fun l => ml p (R.getD l 0) x) R 0 t
/-- A row minus a multiple of another, the first t elements. -/
def suK (p x : Int) (R S : List Int) (t : Nat) : List Int := updK (fun l => sb p (R.getD l 0) (ml p x (S.getD l 0))) R 0 t
theorem ml_rng {p : Int} (hk : known p = true) (a b : Int) : 0 ≤ ml p a b ∧ ml p a b < p := by
  rw [ml, if_pos hk]
  have := known_lo hk
  exact ⟨Int.emod_nonneg _ (by omega), Int.emod_lt_of_pos _ (by omega)⟩
theorem sb_rng {p : Int} (hk : known p = true) (a b : Int) : 0 ≤ sb p a b ∧ sb p a b < p := by
  rw [sb, if_pos hk]
  have := known_lo hk
  exact ⟨Int.emod_nonneg _ (by omega), Int.emod_lt_of_pos _ (by omega)⟩
theorem updK_rdc {p : Int} {f : Nat → Int} {R : List Int} (hf : ∀ i, 0 ≤ f i ∧ f i < p) (t : Nat) (hR : Rdc p R) : Rdc p (updK f R 0 t) := fun y hy => by
  simp only [updK, List.mem_map, List.mem_range] at hy
  obtain ⟨i, hi, rfl⟩ := hy
  split
  · exact hf i
  · rw [getD_lt _ hi]; exact hR _ (List.getElem_mem hi)
theorem scK_rdc {p : Int} (hk : known p = true) (x : Int) {R : List Int} (t : Nat) (hR : Rdc p R) : Rdc p (scK p x R t) := updK_rdc (fun _ => ml_rng hk _ _) t hR
theorem suK_rdc {p : Int} (hk : known p = true) (x : Int) {R : List Int} (S : List Int) (t : Nat) (hR : Rdc p R) : Rdc p (suK p x R S t) := updK_rdc (fun _ => sb_rng hk _ _) t hR
theorem scK_len (p x : Int) (R : List Int) (t : Nat) : (scK p x R t).length = R.length := updK_len _ _ _ _
theorem suK_len (p x : Int) (R S : List Int) (t : Nat) : (suK p x R S t).length = R.length := updK_len _ _ _ _
theorem ph_scK {p : Int} (hk : known p = true) (x : Int) (R : List Int) : (fun l => ph p ((scK p x R R.length).getD l 0)) = fun l => ph p x * ph p (R.getD l 0) := funext fun l => by
  unfold scK
  rw [updK_getD]
  by_cases h : l < R.length
  · rw [if_pos (by omega), ph_ml hk]; grind
  · rw [if_neg (by omega), getD_ge R (by omega), ph_zero hk]; grind
theorem ph_suK {p : Int} (hk : known p = true) (x : Int) {R S : List Int} (hS : S.length = R.length) : (fun l => ph p ((suK p x R S R.length).getD l 0)) = fun l => ph p (R.getD l 0) - ph p x * ph p (S.getD l 0) := funext fun l => by
  unfold suK
  rw [updK_getD]
  by_cases h : l < R.length
  · rw [if_pos (by omega), ph_sb hk, ph_ml hk]
  · rw [if_neg (by omega), getD_ge R (by omega), getD_ge S (by omega), ph_zero hk]; grind
/-- The row of the pivot is scaled. -/
theorem mf_scale {p : Int} (hk : known p = true) {L : List (List Int)} {a : Nat} (ha : a < L.length) (j : Nat) (x : Int) : mf p (L.set a (scK p x L[a] L[a].length)) = Po.elim (mf p L) a j (ph p x) 0 := by
  rw [mf_set ha, ph_scK hk, Po.elim_zero]
  congr 1
  funext l
  rw [mf_row ha]
/-- A row is cleared. -/
theorem mf_clear {p : Int} (hk : known p = true) {m n : Nat} {L N : List (List Int)} {a r j : Nat} {x : Fin (Q p)} (hL : Mt p m n L) (ha : a < L.length) (hr : r < L.length) (hne : r ≠ a) (h : mf p L = Po.elim (mf p N) a j x r) :
    mf p (L.set r (suK p (L[r].getD j 0) L[r] L[a] L[r].length)) = Po.elim (mf p N) a j x (r + 1) := by
  have e1 : ∀ l, ph p (L[r].getD l 0) = Po.elim (mf p N) a j x r r l := fun l => by rw [← h, mf_row hr]
  have e2 : ∀ l, ph p (L[a].getD l 0) = Po.elim (mf p N) a j x r a l := fun l => by rw [← h, mf_row ha]
  have e3 : Po.elim (mf p N) a j x r r j = mf p N r j := by unfold Po.elim; rw [if_neg hne, if_neg (by omega)]
  rw [mf_set hr, ph_suK hk _ (by rw [hL.row a ha, hL.row r hr]), Po.elim_succ _ _ _ hne, h]
  congr 1
  funext l
  rw [e1, e2, e1, e3]; grind

/-- A matrix and a list of ints of the call's own, apart. -/
structure Wk (w : World) (base : Nat) (v vp : Value) (rs : Nat → Value) (L : List (List Int)) (c : List Nat) : Prop where
  m : OwnM w base v rs L
  c : OwI w base vp c
  a1 : ∀ g, vp.ownBlock = some g → v.ownBlock ≠ some g
  a2 : ∀ i, i < L.length → ∀ g, vp.ownBlock = some g → (rs i).ownBlock ≠ some g
theorem Wk.hold {w w' : World} {base : Nat} {v vp : Value} {rs : Nat → Value} {L : List (List Int)} {c : List Nat} (h : Wk w base v vp rs L c) (k : Below w.heap.size w w') : Wk w' base v vp rs L c :=
  ⟨h.m.hold k, h.c.hold k, h.a1, h.a2⟩
theorem Wk.setAt {w : World} {base g n cp : Nat} {v vp : Value} {rs : Nat → Value} {L : List (List Int)} {c : List Nat} (h : Wk w base v vp rs L c) {i : Nat} (hi : i < L.length) (e : rs i = .slice (some ⟨g, 0, none⟩) n cp) (j : Nat) (x : Int) [hx : U x] :
    Wk (w.setCell ⟨g, j, none⟩ (.int .u64 x)) base v vp rs (L.set i (L[i].set j x)) c ∧ w.grownBy (w.setCell ⟨g, j, none⟩ (.int .u64 x)) (some g) := by
  obtain ⟨h1, h2⟩ := h.m.setAt hi e j x
  have hg : (rs i).ownBlock = some g := by rw [e]; rfl
  refine ⟨⟨h1, h.c.kept h2 (none_or fun b hb hb2 => ?_), h.a1, by rw [List.length_set]; exact h.a2⟩, h2⟩
  cases hb
  exact h.a2 i hi g hb2 hg
theorem Wk.swap {w : World} {base g n cp : Nat} {vp : Value} {rs : Nat → Value} {L : List (List Int)} {c : List Nat} (h : Wk w base (.slice (some ⟨g, 0, none⟩) n cp) vp rs L c) {a k : Nat} (ha : a < L.length) (hk : k < L.length) :
    Wk ((w.setCell ⟨g, a, none⟩ (rs k)).setCell ⟨g, k, none⟩ (rs a)) base (.slice (some ⟨g, 0, none⟩) n cp) vp (fun i => rs (if i = a then k else if i = k then a else i)) (swapL L a k) c ∧ w.grownBy ((w.setCell ⟨g, a, none⟩ (rs k)).setCell ⟨g, k, none⟩ (rs a)) (some g) := by
  obtain ⟨h1, h2⟩ := h.m.swap ha hk
  refine ⟨⟨h1, h.c.kept h2 (none_or fun b hb hb2 => ?_), h.a1, fun i hi b hb => ?_⟩, h2⟩
  · cases hb
    exact h.a1 g hb2 rfl
  · rw [swapL_len] at hi
    exact h.a2 _ (by split <;> (try split) <;> omega) b hb
/-- What was written lies in the call's own memory. -/
theorem Wk.wrote {B base g n cp : Nat} {w a b : World} {v vp : Value} {rs : Nat → Value} {L : List (List Int)} {c : List Nat} (h : Below B w a) (hB : B ≤ base) (hs : B ≤ a.heap.size) (hw : Wk a base v vp rs L c) {i : Nat} (hi : i < L.length) (e : rs i = .slice (some ⟨g, 0, none⟩) n cp) (k : a.grownBy b (some g)) : Below B w b :=
  h.grown k hs fun j ej => by
    cases ej
    have := ((hw.m.row i hi).row.lt g (by rw [e]; rfl)).1
    omega
theorem Wk.rows {w : World} {base : Nat} {v vp : Value} {rs : Nat → Value} {L : List (List Int)} {c : List Nat} (h : Wk w base v vp rs L c) {i : Nat} (hi : i < L.length) (hn : 0 < L[i].length) : ∃ g cp, rs i = .slice (some ⟨g, 0, none⟩) L[i].length cp := by
  rcases (h.m.row i hi).cases with ⟨_, e⟩ | ⟨g, cp, e, _⟩
  · rw [e] at hn; simp at hn
  · exact ⟨g, cp, e⟩
theorem Wk.out {w : World} {base g n cp : Nat} {vp : Value} {rs : Nat → Value} {L : List (List Int)} {c : List Nat} (h : Wk w base (.slice (some ⟨g, 0, none⟩) n cp) vp rs L c) {i : Nat} (hi : i < L.length) {v : Value} (e : rs i = v) : w.cell? ⟨g, i, none⟩ = some v := by
  rw [← e]; exact h.m.cell hi
theorem Wk.cellIn {w : World} {base g n cp : Nat} {v vp : Value} {rs : Nat → Value} {L : List (List Int)} {c : List Nat} (h : Wk w base v vp rs L c) {i : Nat} (hi : i < L.length) (e : rs i = .slice (some ⟨g, 0, none⟩) n cp) {X : List Int} (hX : L[i] = X) {t : Nat} (ht : t < X.length) :
    w.cell? ⟨g, t, none⟩ = some (.int .u64 X[t]) ∧ w.frozen? ⟨g, t, none⟩ = false ∧ U X[t] := by
  subst hX
  have h1 := h.m.row i hi
  rw [e] at h1
  exact ⟨h1.cell ht, h1.thawed t, h1.us _ (List.getElem_mem ht)⟩
theorem Wk.setIn {w : World} {base g n cp : Nat} {v vp : Value} {rs : Nat → Value} {S : List (List Int)} {c : List Nat} {a : Nat} {X : List Int} (h : Wk w base v vp rs (S.set a X) c) (ha : a < S.length) (e : rs a = .slice (some ⟨g, 0, none⟩) n cp) (t : Nat) (x : Int) [hx : U x] :
    Wk (w.setCell ⟨g, t, none⟩ (.int .u64 x)) base v vp rs (S.set a (X.set t x)) c ∧ w.grownBy (w.setCell ⟨g, t, none⟩ (.int .u64 x)) (some g) := by
  have h1 := h.setAt (i := a) (by rw [List.length_set]; exact ha) e t x
  rw [List.getElem_set_self, List.set_set] at h1
  exact h1
/-- A new pivot is noted. -/
theorem Wk.push {w w' : World} {base g n cp j : Nat} {v vp : Value} {rs : Nat → Value} {L : List (List Int)} {c : List Nat} (h : Wk w base v vp rs L c) (hc : OwI w' base (.slice (some ⟨g, 0, none⟩) n cp) (c ++ [j])) (hg : vp.ownBlock = some g ∨ w.heap.size < g) (k : w.grownBy w' vp.ownBlock) :
    Wk w' base v (.slice (some ⟨g, 0, none⟩) n cp) rs L (c ++ [j]) := by
  refine ⟨h.m.kept k (fun b hb => h.a1 b hb) (fun i hi b hb => h.a2 i hi b hb), hc, fun b hb e => ?_, fun i hi b hb e => ?_⟩
  · have hb2 : g = b := by simpa [Value.ownBlock] using hb
    subst hb2
    rcases hg with h1 | h1
    · exact h.a1 g h1 e
    · have := (h.m.outer.lt g e).2; omega
  · have hb2 : g = b := by simpa [Value.ownBlock] using hb
    subst hb2
    rcases hg with h1 | h1
    · exact h.a2 i hi g h1 e
    · have := ((h.m.row i hi).row.lt g e).2; omega
end Go.Proofs.Ytdcdaclkeocfpaa
