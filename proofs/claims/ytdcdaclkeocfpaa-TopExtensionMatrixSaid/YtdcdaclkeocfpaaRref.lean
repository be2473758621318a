/- Row operations, kernels, the reduced row echelon form: each matrix has one, and only one. Nothing here speaks of the program. -/
import Derived.Test.YtdcdaclkeocfpaaDet
namespace Go.Proofs.Ytdcdaclkeocfpaa.Po
variable {q : Nat} [NeZero q]

/-- The i-th element of the product with a vector. -/
def ap (n : Nat) (M : Nat → Nat → Fin q) (x : Nat → Fin q) (i : Nat) : Fin q := sm (fun j => M i j * x j) n
def Ker (m n : Nat) (M : Nat → Nat → Fin q) (x : Nat → Fin q) : Prop := ∀ i, i < m → ap n M x i = 0
/-- The product of two matrices. -/
def mul (k : Nat) (M B : Nat → Nat → Fin q) : Nat → Nat → Fin q := fun i j => sm (fun l => M i l * B l j) k
theorem ap_congr {n : Nat} {M N : Nat → Nat → Fin q} {x y : Nat → Fin q} {i k : Nat} (h : ∀ j, j < n → M i j = N k j) (hx : ∀ j, j < n → x j = y j) : ap n M x i = ap n N y k := sm_congr fun j hj => by rw [h j hj, hx j hj]
theorem ap_row {n : Nat} (M : Nat → Nat → Fin q) (x : Nat → Fin q) (r : Nat) (v : Nat → Fin q) (i : Nat) : ap n (rowSet M r v) x i = if i = r then sm (fun j => v j * x j) n else ap n M x i := by
  by_cases h : i = r
  · subst h; rw [if_pos rfl]; exact sm_congr fun j _ => by rw [rowSet_at]
  · rw [if_neg h]; exact sm_congr fun j _ => by rw [rowSet_off _ h]

/-- N arises from M by operations on the first m rows. -/
inductive Ops (m : Nat) (M : Nat → Nat → Fin q) : (Nat → Nat → Fin q) → Prop
  | refl : Ops m M M
  | swap {N : Nat → Nat → Fin q} {r s : Nat} : Ops m M N → r < m → s < m → r ≠ s → Ops m M (swap r s N)
  | scale {N : Nat → Nat → Fin q} {r : Nat} {c d : Fin q} : Ops m M N → r < m → c * d = 1 → Ops m M (rowSet N r fun j => c * N r j)
  | add {N : Nat → Nat → Fin q} {r s : Nat} {c : Fin q} : Ops m M N → r < m → s < m → r ≠ s → Ops m M (rowSet N r fun j => N r j + c * N s j)
theorem Ops.trans {m : Nat} {A B C : Nat → Nat → Fin q} (h : Ops m A B) (k : Ops m B C) : Ops m A C := by
  induction k with
  | refl => exact h
  | swap _ h1 h2 h3 ih => exact ih.swap h1 h2 h3
  | scale _ h1 h2 ih => exact ih.scale h1 h2
  | add _ h1 h2 h3 ih => exact ih.add h1 h2 h3
theorem sm_scale (c : Fin q) (f x : Nat → Fin q) (n : Nat) : sm (fun j => c * f j * x j) n = c * sm (fun j => f j * x j) n := by
  rw [← sm_mul]; exact sm_congr fun j _ => by grind
theorem sm_addmul (c : Fin q) (f g x : Nat → Fin q) (n : Nat) : sm (fun j => (f j + c * g j) * x j) n = sm (fun j => f j * x j) n + c * sm (fun j => g j * x j) n := by
  rw [← sm_mul, ← sm_add]; exact sm_congr fun j _ => by grind
/-- Row operations keep the kernel. -/
theorem Ops.ker {m : Nat} {M N : Nat → Nat → Fin q} (h : Ops m M N) (n : Nat) (x : Nat → Fin q) : Ker m n M x ↔ Ker m n N x := by
  induction h with
  | refl => exact Iff.rfl
  | @swap N r s _ hr hs hne ih =>
    rw [ih]
    have e : ∀ i, ap n (Po.swap r s N) x i = if i = r then ap n N x s else if i = s then ap n N x r else ap n N x i := fun i => by
      by_cases h1 : i = r
      · subst h1; rw [if_pos rfl]; exact ap_congr (fun j _ => if_pos rfl) fun _ _ => rfl
      · rw [if_neg h1]
        by_cases h2 : i = s
        · subst h2; rw [if_pos rfl]; exact ap_congr (fun j _ => by unfold Po.swap; rw [if_neg h1, if_pos rfl]) fun _ _ => rfl
        · rw [if_neg h2]; exact ap_congr (fun j _ => by unfold Po.swap; rw [if_neg h1, if_neg h2]) fun _ _ => rfl
    constructor
    · intro hk i hi
      rw [e]; split
      · exact hk s hs
      · split
        · exact hk r hr
        · exact hk i hi
    · intro hk i hi
      by_cases h1 : i = r
      · subst h1
        have := hk s hs
        rw [e, if_neg (Ne.symm hne), if_pos rfl] at this; exact this
      · by_cases h2 : i = s
        · subst h2
          have := hk r hr
          rw [e, if_pos rfl] at this; exact this
        · have := hk i hi
          rw [e, if_neg h1, if_neg h2] at this; exact this
  | @scale N r c d _ hr hcd ih =>
    rw [ih]
    have e : sm (fun j => c * N r j * x j) n = c * ap n N x r := sm_scale c (N r) x n
    constructor
    · intro hk i hi
      rw [ap_row]; split
      · rw [e, hk r hr]; grind
      · exact hk i hi
    · intro hk i hi
      by_cases h1 : i = r
      · subst h1
        have h2 := hk i hi
        rw [ap_row, if_pos rfl, e] at h2
        have : ∀ y : Fin q, c * y = 0 → y = 0 := fun y hy => by
          have : y = d * (c * y) := by
            have : d * (c * y) = (c * d) * y := by grind
            rw [this, hcd]; grind
          rw [this, hy]; grind
        exact this _ h2
      · have h2 := hk i hi
        rw [ap_row, if_neg h1] at h2; exact h2
  | @add N r s c _ hr hs hne ih =>
    rw [ih]
    have e : sm (fun j => (N r j + c * N s j) * x j) n = ap n N x r + c * ap n N x s := sm_addmul c (N r) (N s) x n
    constructor
    · intro hk i hi
      rw [ap_row]; split
      · rw [e, hk r hr, hk s hs]; grind
      · exact hk i hi
    · intro hk i hi
      have hs2 : ap n N x s = 0 := by
        have h2 := hk s hs
        rw [ap_row, if_neg (Ne.symm hne)] at h2; exact h2
      by_cases h1 : i = r
      · subst h1
        have h2 := hk i hi
        rw [ap_row, if_pos rfl, e, hs2] at h2
        have : ∀ y : Fin q, y + c * 0 = 0 → y = 0 := fun y hy => by grind
        exact this _ h2
      · have h2 := hk i hi
        rw [ap_row, if_neg h1] at h2; exact h2
/-- The determinant is multiplied by a number that is not 0. -/
theorem Ops.det {m : Nat} {M N : Nat → Nat → Fin q} (h : Ops m M N) : ∃ u v : Fin q, u * v = 1 ∧ Po.det m M = u * Po.det m N := by
  induction h with
  | refl => exact ⟨1, 1, by grind, by grind⟩
  | @swap N r s _ hr hs hne ih =>
    obtain ⟨u, v, h1, h2⟩ := ih
    refine ⟨0 - u, 0 - v, by grind, ?_⟩
    rw [det_swap hr hs hne, h2]; grind
  | @scale N r c d _ hr hcd ih =>
    obtain ⟨u, v, h1, h2⟩ := ih
    refine ⟨u * d, v * c, ?_, ?_⟩
    · have : u * d * (v * c) = (u * v) * (c * d) := by grind
      rw [this, h1, hcd]; grind
    · rw [det_scale hr, h2]
      have : u * d * (c * Po.det m N) = (c * d) * (u * Po.det m N) := by grind
      rw [this, hcd]; grind
  | @add N r s c _ hr hs hne ih =>
    obtain ⟨u, v, h1, h2⟩ := ih
    exact ⟨u, v, h1, by rw [det_add hr hs hne, h2]⟩
/-- What is done to the rows of M is done to those of the product. -/
theorem Ops.mul {m : Nat} {M N : Nat → Nat → Fin q} (h : Ops m M N) (k : Nat) (B : Nat → Nat → Fin q) : Ops m (Po.mul k M B) (Po.mul k N B) := by
  induction h with
  | refl => exact .refl
  | @swap N r s _ hr hs hne ih =>
    have e : Po.mul k (Po.swap r s N) B = Po.swap r s (Po.mul k N B) := funext fun i => funext fun j => by
      unfold Po.swap Po.mul
      by_cases h1 : i = r
      · simp only [if_pos h1]
      · by_cases h2 : i = s
        · simp only [if_neg h1, if_pos h2]
        · simp only [if_neg h1, if_neg h2]
    rw [e]; exact ih.swap hr hs hne
  | @scale N r c d _ hr hcd ih =>
    have e : Po.mul k (rowSet N r fun j => c * N r j) B = rowSet (Po.mul k N B) r fun j => c * Po.mul k N B r j := funext fun i => funext fun j => by
      by_cases h1 : i = r
      · subst h1; rw [rowSet_at]
        show sm (fun l => rowSet N i _ i l * B l j) k = _
        simp only [rowSet_at]
        exact sm_scale c (N i) (fun l => B l j) k
      · rw [rowSet_off _ h1]
        show sm (fun l => rowSet N r _ i l * B l j) k = _
        simp only [rowSet_off _ h1]
        rfl
    rw [e]; exact ih.scale hr hcd
  | @add N r s c _ hr hs hne ih =>
    have e : Po.mul k (rowSet N r fun j => N r j + c * N s j) B = rowSet (Po.mul k N B) r fun j => Po.mul k N B r j + c * Po.mul k N B s j := funext fun i => funext fun j => by
      by_cases h1 : i = r
      · subst h1; rw [rowSet_at]
        show sm (fun l => rowSet N i _ i l * B l j) k = _
        simp only [rowSet_at]
        exact sm_addmul c (N i) (N s) (fun l => B l j) k
      · rw [rowSet_off _ h1]
        show sm (fun l => rowSet N r _ i l * B l j) k = _
        simp only [rowSet_off _ h1]
        rfl
    rw [e]; exact ih.add hr hs hne

/-- The first j columns are reduced, with the pivots c. -/
structure Part (m j : Nat) (R : Nat → Nat → Fin q) (c : List Nat) : Prop where
  len : c.length ≤ m
  lt : ∀ t (h : t < c.length), c[t] < j
  inc : c.Pairwise (· < ·)
  unit : ∀ i, i < m → ∀ t (h : t < c.length), R i c[t] = if i = t then 1 else 0
  left : ∀ t (h : t < c.length), ∀ l, l < c[t] → R t l = 0
  rest : ∀ i, c.length ≤ i → i < m → ∀ l, l < j → R i l = 0
theorem Part.zero (m : Nat) (R : Nat → Nat → Fin q) : Part m 0 R [] := ⟨Nat.zero_le _, fun t h => absurd h (Nat.not_lt_zero t), List.Pairwise.nil, fun _ _ t h => absurd h (Nat.not_lt_zero t), fun t h => absurd h (Nat.not_lt_zero t), fun _ _ _ l hl => absurd hl (Nat.not_lt_zero l)⟩
theorem Part.skip {m j : Nat} {R : Nat → Nat → Fin q} {c : List Nat} (h : Part m j R c) (h0 : ∀ i, c.length ≤ i → i < m → R i j = 0) : Part m (j + 1) R c :=
  ⟨h.len, fun t ht => Nat.lt_succ_of_lt (h.lt t ht), h.inc, h.unit, h.left, fun i hi hm l hl => by
    rcases Nat.lt_succ_iff_lt_or_eq.1 hl with e | e
    · exact h.rest i hi hm l e
    · subst e; exact h0 i hi hm⟩
/-- Row k becomes the row of the new pivot, and r rows are cleared. -/
def elim (S : Nat → Nat → Fin q) (at_ j : Nat) (v : Fin q) (r : Nat) : Nat → Nat → Fin q := fun i l => if i = at_ then v * S at_ l else if i < r then S i l - S i j * (v * S at_ l) else S i l
omit [NeZero q] in
theorem elim_zero (S : Nat → Nat → Fin q) (a j : Nat) (v : Fin q) : elim S a j v 0 = rowSet S a fun l => v * S a l := funext fun i => funext fun l => by
  unfold elim rowSet
  by_cases h : i = a
  · rw [if_pos h, if_pos h]
  · rw [if_neg h, if_neg (by omega), if_neg h]
omit [NeZero q] in
theorem elim_at (S : Nat → Nat → Fin q) (a j : Nat) (v : Fin q) : elim S a j v (a + 1) = elim S a j v a := funext fun i => funext fun l => by
  unfold elim
  by_cases h : i = a
  · rw [if_pos h, if_pos h]
  · rw [if_neg h, if_neg h]
    by_cases h2 : i < a
    · rw [if_pos h2, if_pos (by omega)]
    · rw [if_neg h2, if_neg (by omega)]
theorem elim_succ (S : Nat → Nat → Fin q) {a r : Nat} (j : Nat) (v : Fin q) (h : r ≠ a) : elim S a j v (r + 1) = rowSet (elim S a j v r) r fun l => elim S a j v r r l + (0 - S r j) * elim S a j v r a l := funext fun i => funext fun l => by
  by_cases h1 : i = r
  · subst h1
    rw [rowSet_at]
    unfold elim
    rw [if_neg h, if_pos (by omega), if_neg h, if_neg (by omega), if_pos rfl]; grind
  · rw [rowSet_off _ h1]
    unfold elim
    by_cases h2 : i = a
    · rw [if_pos h2, if_pos h2]
    · rw [if_neg h2, if_neg h2]
      by_cases h3 : i < r
      · rw [if_pos h3, if_pos (by omega)]
      · rw [if_neg h3, if_neg (by omega)]
theorem elim_ops {m a j : Nat} {S : Nat → Nat → Fin q} {v u : Fin q} (ha : a < m) (hv : v * u = 1) : ∀ r, r ≤ m → Ops m S (elim S a j v r)
  | 0, _ => by rw [elim_zero]; exact Ops.refl.scale ha hv
  | r + 1, hr => by
    by_cases h : r = a
    · subst h; rw [elim_at]; exact elim_ops ha hv r (by omega)
    · rw [elim_succ S j v h]; exact (elim_ops ha hv r (by omega)).add (by omega) ha h
theorem swap_ops {m a k : Nat} (R : Nat → Nat → Fin q) (ha : a < m) (hk : k < m) : Ops m R (swap a k R) := by
  by_cases h : a = k
  · subst h
    have : swap a a R = R := funext fun i => funext fun l => by
      unfold swap
      by_cases h1 : i = a
      · rw [if_pos h1, h1]
      · rw [if_neg h1, if_neg h1]
    rw [this]; exact .refl
  · exact Ops.refl.swap ha hk h
/-- A new pivot. -/
theorem Part.pivot {m j k : Nat} {R : Nat → Nat → Fin q} {c : List Nat} (h : Part m j R c) (hk : c.length ≤ k) (hkm : k < m) {v : Fin q} (hv : v * R k j = 1) :
    Part m (j + 1) (elim (swap c.length k R) c.length j v m) (c ++ [j]) := by
  obtain ⟨a, ha⟩ : ∃ a, a = c.length := ⟨_, rfl⟩
  rw [← ha] at hk ⊢
  obtain ⟨S, hS⟩ : ∃ S, S = swap a k R := ⟨_, rfl⟩
  rw [← hS]
  have ham : a < m := by omega
  have s1 : ∀ i l, i < a → S i l = R i l := fun i l hi => by rw [hS]; unfold swap; rw [if_neg (by omega), if_neg (by omega)]
  have s2 : ∀ i l, a ≤ i → i < m → l < j → S i l = 0 := fun i l hi him hl => by
    rw [hS]; unfold swap
    split
    · exact h.rest k (by omega) hkm l hl
    · split
      · exact h.rest a (by omega) ham l hl
      · exact h.rest i (by omega) him l hl
  have s3 : S a j = R k j := by rw [hS]; unfold swap; rw [if_pos rfl]
  have t1 : ∀ l, elim S a j v m a l = v * S a l := fun l => if_pos rfl
  have t2 : ∀ i l, i ≠ a → i < m → elim S a j v m i l = S i l - S i j * (v * S a l) := fun i l hi him => by unfold elim; rw [if_neg hi, if_pos him]
  have t3 : ∀ i l, i < m → l < j → elim S a j v m i l = if i = a then 0 else S i l := fun i l him hl => by
    by_cases e : i = a
    · subst e; rw [if_pos rfl, t1, s2 i l (Nat.le_refl _) him hl]; grind
    · rw [if_neg e, t2 i l e him, s2 a l (Nat.le_refl _) ham hl]; grind
  have t4 : ∀ i, i < m → elim S a j v m i j = if i = a then 1 else 0 := fun i him => by
    by_cases e : i = a
    · subst e; rw [if_pos rfl, t1, s3, hv]
    · rw [if_neg e, t2 i j e him, s3, hv]; grind
  have hlen : (c ++ [j]).length = a + 1 := by rw [List.length_append, ← ha]; rfl
  have hget : ∀ t (ht : t < (c ++ [j]).length), (t = a ∧ (c ++ [j])[t] = j) ∨ ∃ h2 : t < c.length, (c ++ [j])[t] = c[t] := fun t ht => by
    rw [hlen] at ht
    by_cases e : t = a
    · refine .inl ⟨e, ?_⟩
      rw [List.getElem_append_right (by omega)]
      simp
    · exact .inr ⟨by omega, by rw [List.getElem_append_left (by omega)]⟩
  refine ⟨by omega, fun t ht => ?_, ?_, fun i him t ht => ?_, fun t ht l hl => ?_, fun i hi him l hl => ?_⟩
  · rcases hget t ht with ⟨_, e⟩ | ⟨h2, e⟩
    · rw [e]; omega
    · rw [e]; exact Nat.lt_succ_of_lt (h.lt t h2)
  · refine List.pairwise_append.2 ⟨h.inc, List.pairwise_singleton _ _, fun x hx y hy => ?_⟩
    obtain ⟨t, ht, rfl⟩ := List.getElem_of_mem hx
    simp at hy; subst hy
    exact h.lt t ht
  · rcases hget t ht with ⟨e0, e⟩ | ⟨h2, e⟩
    · rw [e, t4 i him, e0]
    · rw [e, t3 i _ him (h.lt t h2)]
      by_cases e2 : i = a
      · rw [if_pos e2, if_neg (by omega)]
      · rw [if_neg e2]
        by_cases e3 : i < a
        · rw [s1 i _ e3]; exact h.unit i him t h2
        · rw [s2 i _ (by omega) him (h.lt t h2), if_neg (by omega)]
  · rcases hget t ht with ⟨e0, e⟩ | ⟨h2, e⟩
    · rw [e] at hl
      rw [e0, t1, s2 a l (Nat.le_refl _) ham hl]; grind
    · rw [e] at hl
      have h3 := h.lt t h2
      rw [t3 t l (by omega) (by omega), if_neg (by omega), s1 t l (by omega)]
      exact h.left t h2 l hl
  · rw [hlen] at hi
    rcases Nat.lt_succ_iff_lt_or_eq.1 hl with e | e
    · rw [t3 i l him e, if_neg (by omega)]
      exact s2 i l (by omega) him e
    · subst e; rw [t4 i him, if_neg (by omega)]
/-- Each matrix can be reduced. -/
theorem exists_part (hF : Fld q) (m : Nat) (M : Nat → Nat → Fin q) : ∀ n, ∃ R c, Ops m M R ∧ Part m n R c
  | 0 => ⟨M, [], .refl, Part.zero m M⟩
  | n + 1 => by
    obtain ⟨R, c, ho, hp⟩ := exists_part hF m M n
    by_cases h : ∃ k, c.length ≤ k ∧ k < m ∧ R k n ≠ 0
    · obtain ⟨k, h1, h2, h3⟩ := h
      obtain ⟨u, hu⟩ := hF _ h3
      have hu2 : u * R k n = 1 := by rw [← hu]; grind
      have hv : u * R k n = 1 := hu2
      have hs : swap c.length k R c.length n = R k n := by unfold swap; rw [if_pos rfl]
      exact ⟨_, _, ho.trans ((swap_ops R (by omega) h2).trans (elim_ops (by omega) hv m (Nat.le_refl _))), hp.pivot h1 h2 hv⟩
    · exact ⟨R, c, ho, hp.skip fun i hi him => Classical.byContradiction fun hc => h ⟨i, hi, him, hc⟩⟩
end Go.Proofs.Ytdcdaclkeocfpaa.Po
