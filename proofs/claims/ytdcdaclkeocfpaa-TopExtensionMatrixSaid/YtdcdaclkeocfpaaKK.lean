/- What the reference's Kernel and Solve (05) return, said of numbers modulo p. -/
import Derived.Test.YtdcdaclkeocfpaaKJ
namespace Go.Proofs.Ytdcdaclkeocfpaa
open Go.RowKit Go.BigFrame
open Classical

theorem getD_set {l : List Int} {i k : Nat} (x : Int) (hi : i < l.length) : (l.set i x).getD k 0 = if k = i then x else l.getD k 0 := by
  by_cases e : k = i
  · subst e; rw [if_pos rfl, getD_lt _ (by rw [List.length_set]; exact hi), List.getElem_set_self]
  · rw [if_neg e]
    simp only [List.getD, List.getElem?_set_ne (Ne.symm e)]
/-- The sum over the pivots before i that lie in column l. -/
theorem pick_none {p : Int} {m n : Nat} {R : Nat → Nat → Fin (Q p)} {c : List Nat} (h : Po.Part m n R c) (j : Nat) {i : Nat} (hi : i < c.length) : Po.sm (fun t => if c.getD t 0 = c[i] then R t j else 0) i = 0 := by
  rw [Po.sm_congr (g := fun _ => 0) fun t ht => if_neg fun e => ?_, Po.sm_zero]
  have ht2 : t < c.length := by omega
  rw [Po.getD_nat ht2] at e
  have := h.inj ht2 hi e
  omega
theorem ph_kx {p : Int} (hk : known p = true) {R : List (List Int)} {c : List Nat} {m n j : Nat} (h : Po.Part m n (mf p R) c) (hj : j < n) (hjc : j ∉ c) :
    ∀ i, i ≤ c.length → ∀ l, l < n → ph p ((kx p R c n j i).getD l 0) = (if l = j then 1 else 0) - Po.sm (fun t => if c.getD t 0 = l then mf p R t j else 0) i
  | 0, _, l, hl => by
    rw [kx, getD_lt _ (by simp [idRow]; exact hl)]
    simp only [idRow, List.getElem_map, List.getElem_range]
    rw [show Po.sm (fun t => if c.getD t 0 = l then mf p R t j else 0) 0 = 0 from rfl]
    by_cases e : l = j
    · rw [if_pos e.symm, if_pos e, ph_one hk]; grind
    · rw [if_neg (Ne.symm e), if_neg e, ph_zero hk]; grind
  | i + 1, hi, l, hl => by
    have ih := ph_kx hk h hj hjc i (by omega) l hl
    have hic : i < c.length := by omega
    have hcn := h.lt i hic
    rw [kx, Po.getD_nat hic, getD_set _ (by rw [kx_len]; exact hcn)]
    rw [show Po.sm (fun t => if c.getD t 0 = l then mf p R t j else 0) (i + 1) = Po.sm (fun t => if c.getD t 0 = l then mf p R t j else 0) i + (if c.getD i 0 = l then mf p R i j else 0) from rfl, Po.getD_nat hic]
    by_cases e : l = c[i]
    · subst e
      rw [if_pos rfl, if_pos rfl, pick_none h j hic, if_neg (fun e2 => hjc (by rw [← e2]; exact List.getElem_mem hic)), ph_sb hk, ph_zero hk]
      show 0 - mf p R i j = _
      grind
    · rw [if_neg e, if_neg (Ne.symm e), ih]; grind
theorem ph_kx_all {p : Int} (hk : known p = true) {R : List (List Int)} {c : List Nat} {m n j : Nat} (h : Po.Part m n (mf p R) c) (hj : j < n) (hjc : j ∉ c) {l : Nat} (hl : l < n) : pf p (kx p R c n j c.length) l = Po.kv c (mf p R) j l :=
  ph_kx hk h hj hjc c.length (Nat.le_refl _) l hl
theorem ph_sx {p : Int} (hk : known p = true) {R : List (List Int)} {c : List Nat} {m n : Nat} (h : Po.Part m (n + 1) (mf p R) c) :
    ∀ i, i ≤ c.length → ∀ l, l < n → ph p ((sx R c n i).getD l 0) = Po.sm (fun t => if c.getD t 0 = l then mf p R t n else 0) i
  | 0, _, l, hl => by
    rw [sx, getD_lt _ (by simpa using hl), List.getElem_replicate, ph_zero hk]; rfl
  | i + 1, hi, l, hl => by
    have ih := ph_sx hk h i (by omega) l hl
    have hic : i < c.length := by omega
    rw [show Po.sm (fun t => if c.getD t 0 = l then mf p R t n else 0) (i + 1) = Po.sm (fun t => if c.getD t 0 = l then mf p R t n else 0) i + (if c.getD i 0 = l then mf p R i n else 0) from rfl, sx, Po.getD_nat hic]
    by_cases hcn : c[i] < n
    · rw [getD_set _ (by rw [sx_len]; exact hcn)]
      by_cases e : l = c[i]
      · subst e
        rw [if_pos rfl, if_pos rfl, pick_none h n hic]
        show mf p R i n = _
        grind
      · rw [if_neg e, if_neg (Ne.symm e), ih]; grind
    · rw [if_neg (by omega), List.set_eq_of_length_le (by rw [sx_len]; omega), ih]; grind
theorem ph_sx_all {p : Int} (hk : known p = true) {R : List (List Int)} {c : List Nat} {m n : Nat} (h : Po.Part m (n + 1) (mf p R) c) {l : Nat} (hl : l < n) : pf p (sx R c n c.length) l = Po.sv c (mf p R) n l :=
  ph_sx hk h c.length (Nat.le_refl _) l hl

/-- The kernel's vectors are sent to zero. -/
theorem apL_zero {p : Int} {M R : List (List Int)} {c : List Nat} (h : RedOf p M R c) {X : List Int} (hX : X ∈ kerTo p R c (cols R) (cols R)) : ∀ y ∈ apL p M X, y = 0 := fun y hy => by
  unfold apL at hy
  split at hy
  · rename_i hok
    obtain ⟨i, hi, rfl⟩ := List.mem_map.1 hy
    have hi := List.mem_range.1 hi
    have hr := h.1 hok.1
    have hk := hok.1.1
    rw [hr.cols] at hX
    obtain ⟨j, hj, rfl⟩ := List.mem_map.1 hX
    obtain ⟨hj1, hj2⟩ := List.mem_filter.1 hj
    have hj1 := List.mem_range.1 hj1
    have hjc : j ∉ c := by simpa using hj2
    rw [Po.ap_congr (N := mf p M) (y := Po.kv c (mf p R) j) (k := i) (fun _ _ => rfl) fun l hl => ph_kx_all hk hr.part hj1 hjc hl]
    rw [(hr.ker _).2 (Po.kv_ker hr.part hj1) i hi]
    exact ival_z hk
  · simp at hy

theorem mf_wide {p : Int} {M : List (List Int)} {V : List Int} (hv : Vld M) {i j : Nat} (hi : i < M.length) (hj : j < cols M + 1) : mf p (wideL M V) i j = Po.wide (cols M) (mf p M) (pf p V) i j := by
  have hl := (hv.1 i hi).1
  rw [mf_row (by rw [wideL_len]; exact hi)]
  unfold Po.wide
  simp only [wideL, List.getElem_map, List.getElem_range]
  rw [getD_row hi]
  by_cases e : j < cols M
  · rw [if_pos e, mf_row hi]
    simp only [List.getD]
    rw [List.getElem?_append_left (by omega)]
  · obtain rfl : j = cols M := by omega
    rw [if_neg e]
    simp only [List.getD]
    rw [List.getElem?_append_right (by omega), hl]
    simp [pf]
theorem ker_wide {p : Int} {M : List (List Int)} {V : List Int} (hv : Vld M) (x : Nat → Fin (Q p)) : Po.Ker M.length (cols M + 1) (mf p (wideL M V)) x ↔ Po.Ker M.length (cols M + 1) (Po.wide (cols M) (mf p M) (pf p V)) x :=
  forall_congr' fun i => forall_congr' fun hi => by rw [Po.ap_congr (N := Po.wide (cols M) (mf p M) (pf p V)) (y := x) (k := i) (fun j hj => mf_wide hv hi hj) fun _ _ => rfl]
theorem Elm.wide {p : Int} {M R : List (List Int)} {V : List Int} {c : List Nat} (hv : Vld M) (h : Elm p (wideL M V) (cols (wideL M V)) R c) (hm : 0 < M.length) :
    Po.Part M.length (cols M + 1) (mf p R) c ∧ ∀ x, Po.Ker M.length (cols M + 1) (Po.wide (cols M) (mf p M) (pf p V)) x ↔ Po.Ker M.length (cols M + 1) (mf p R) x := by
  have h1 := h.part
  have h2 := fun x => h.ops.ker (cols (wideL M V)) x
  rw [cols_wideL hv hm, wideL_len] at *
  exact ⟨h1, fun x => (ker_wide hv x).symm.trans (h2 x)⟩
/-- What Solve returns with 'true' is a solution. -/
theorem SolOf.yes {p : Int} {M : List (List Int)} {V X : List Int} (h : SolOf p M V true X) : OkM p M ∧ V.length = M.length ∧ X.length = cols M ∧ ∀ i, i < M.length → Po.ap (cols M) (mf p M) (pf p X) i = pf p V i := by
  by_cases hb : OkM p M ∧ V.length = M.length
  · obtain ⟨R, c, he, h1 | h1⟩ := h.good hb.1 hb.2
    · obtain ⟨_, hn, rfl⟩ := h1
      refine ⟨hb.1, hb.2, sx_len _ _ _ _, fun i hi => ?_⟩
      obtain ⟨hp, hk⟩ := he.wide hb.1.2 (by omega)
      rw [← Po.solve_yes hp hk hn i hi]
      exact Po.ap_congr (fun _ _ => rfl) fun l hl => ph_sx_all hb.1.1 hp hl
    · exact absurd h1.1 (by decide)
  · exact absurd (h.bad hb).1 (by decide)
/-- Where Solve returns 'false' there is no solution. -/
theorem SolOf.no {p : Int} {M : List (List Int)} {V X : List Int} (h : SolOf p M V false X) (hok : OkM p M) (hl : V.length = M.length) (x : Nat → Fin (Q p)) : ¬ ∀ i, i < M.length → Po.ap (cols M) (mf p M) x i = pf p V i := by
  obtain ⟨R, c, he, h1 | h1⟩ := h.good hok hl
  · exact absurd h1.1 (by decide)
  · have hm : 0 < M.length := by
      apply Classical.byContradiction
      intro h0
      have h2 := he.part.len
      rw [wideL_len] at h2
      have h3 : c = [] := List.length_eq_zero_iff.1 (by omega)
      rw [h3] at h1
      exact absurd h1.2.2 (by simp)
    obtain ⟨hp, hk⟩ := he.wide hok.2 hm
    exact Po.solve_no (one_nz hok.1) hp hk h1.2.2 x
/-- Solve's answer is one. -/
theorem SolOf.unique {p : Int} {M : List (List Int)} {V X Y : List Int} {a b : Bool} (h : SolOf p M V a X) (k : SolOf p M V b Y) : a = b ∧ X = Y := by
  by_cases hb : OkM p M ∧ V.length = M.length
  · obtain ⟨R, c, he, h1⟩ := h.good hb.1 hb.2
    obtain ⟨S, d, hf, k1⟩ := k.good hb.1 hb.2
    obtain ⟨rfl, rfl⟩ := he.rrf.unique hb.1.1 hf.rrf
    rcases h1 with ⟨rfl, h2, rfl⟩ | ⟨rfl, rfl, h2⟩
    · rcases k1 with ⟨rfl, k2, rfl⟩ | ⟨rfl, rfl, k2⟩
      · exact ⟨rfl, rfl⟩
      · exact absurd k2 h2
    · rcases k1 with ⟨rfl, k2, rfl⟩ | ⟨rfl, rfl, k2⟩
      · exact absurd h2 k2
      · exact ⟨rfl, rfl⟩
  · rw [(h.bad hb).1, (h.bad hb).2, (k.bad hb).1, (k.bad hb).2]; exact ⟨rfl, rfl⟩
end Go.Proofs.Ytdcdaclkeocfpaa
