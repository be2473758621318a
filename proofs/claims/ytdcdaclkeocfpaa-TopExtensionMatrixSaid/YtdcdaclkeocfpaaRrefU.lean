/- The reduced form is determined by the kernel; vectors of the kernel, solutions, determinants of products. Nothing here speaks of the program. -/
import Derived.Test.YtdcdaclkeocfpaaRref
namespace Go.Proofs.Ytdcdaclkeocfpaa.Po
variable {q : Nat} [NeZero q]

theorem sorted_ext : ∀ {l m : List Nat}, l.Pairwise (· < ·) → m.Pairwise (· < ·) → (∀ a, a ∈ l ↔ a ∈ m) → l = m
  | [], [], _, _, _ => rfl
  | [], b :: _, _, _, h => absurd ((h b).2 List.mem_cons_self) (by simp)
  | a :: _, [], _, _, h => absurd ((h a).1 List.mem_cons_self) (by simp)
  | a :: l, b :: m, hl, hm, h => by
    obtain ⟨hl1, hl2⟩ := List.pairwise_cons.1 hl
    obtain ⟨hm1, hm2⟩ := List.pairwise_cons.1 hm
    have hab : a = b := by
      rcases List.mem_cons.1 ((h a).1 List.mem_cons_self) with e | e
      · exact e
      · rcases List.mem_cons.1 ((h b).2 List.mem_cons_self) with e2 | e2
        · exact e2.symm
        · have h3 := hm1 a e
          have h4 := hl1 b e2
          omega
    subst hab
    congr 1
    refine sorted_ext hl2 hm2 fun x => ⟨fun hx => ?_, fun hx => ?_⟩
    · rcases List.mem_cons.1 ((h x).1 (List.mem_cons_of_mem _ hx)) with e | e
      · have := hl1 x hx; omega
      · exact e
    · rcases List.mem_cons.1 ((h x).2 (List.mem_cons_of_mem _ hx)) with e | e
      · have := hm1 x hx; omega
      · exact e
theorem sm_sub (f g : Nat → Fin q) : ∀ n, sm (fun i => f i - g i) n = sm f n - sm g n
  | 0 => by show (0 : Fin q) = 0 - 0; grind
  | n + 1 => by rw [sm, sm_sub f g n, sm, sm]; grind
theorem Part.get_lt {m j : Nat} {R : Nat → Nat → Fin q} {c : List Nat} (h : Part m j R c) {s t : Nat} (ht : t < c.length) (hst : s < t) : c[s] < c[t] := List.pairwise_iff_getElem.1 h.inc s t (by omega) ht hst
theorem Part.inj {m j : Nat} {R : Nat → Nat → Fin q} {c : List Nat} (h : Part m j R c) {s t : Nat} (hs : s < c.length) (ht : t < c.length) (e : c[s] = c[t]) : s = t := by
  rcases Nat.lt_trichotomy s t with h1 | h1 | h1
  · have := h.get_lt ht h1; omega
  · exact h1
  · have := h.get_lt hs h1; omega
theorem getD_nat {c : List Nat} {t : Nat} (h : t < c.length) : c.getD t 0 = c[t] := by simp [List.getD, h]

/-- The vector of the kernel that has 1 at j and 0 at all other columns without pivot. -/
def kv (c : List Nat) (R : Nat → Nat → Fin q) (j : Nat) : Nat → Fin q := fun l => (if l = j then 1 else 0) - sm (fun t => if c.getD t 0 = l then R t j else 0) c.length
theorem kv_free {c : List Nat} (R : Nat → Nat → Fin q) (j : Nat) {l : Nat} (h : l ∉ c) : kv c R j l = if l = j then 1 else 0 := by
  unfold kv
  rw [sm_congr (g := fun _ => 0) fun t ht => if_neg fun e => h (by rw [← e, getD_nat ht]; exact List.getElem_mem ht), sm_zero]; grind
theorem kv_pivot {m n : Nat} {R : Nat → Nat → Fin q} {c : List Nat} (h : Part m n R c) (j : Nat) {t : Nat} (ht : t < c.length) : kv c R j c[t] = (if c[t] = j then 1 else 0) - R t j := by
  unfold kv
  congr 1
  rw [sm_single ht fun s hs hne => if_neg fun e => hne (h.inj hs ht (by rw [← getD_nat hs]; exact e)), getD_nat ht, if_pos rfl]
theorem kv_right {m n : Nat} {R : Nat → Nat → Fin q} {c : List Nat} (h : Part m n R c) {j l : Nat} (hl : j < l) : kv c R j l = 0 := by
  by_cases hm : l ∈ c
  · obtain ⟨t, ht, rfl⟩ := List.getElem_of_mem hm
    rw [kv_pivot h j ht, h.left t ht j hl, if_neg (by omega)]; grind
  · rw [kv_free R j hm, if_neg (by omega)]
theorem ap_kv (N R : Nat → Nat → Fin q) {c : List Nat} {n j : Nat} (hj : j < n) (hc : ∀ t (h : t < c.length), c[t] < n) (i : Nat) : ap n N (kv c R j) i = N i j - sm (fun t => N i (c.getD t 0) * R t j) c.length := by
  have e1 : ∀ l, l < n → N i l * kv c R j l = (if l = j then N i j else 0) - sm (fun t => N i l * (if c.getD t 0 = l then R t j else 0)) c.length := fun l _ => by
    unfold kv
    rw [sm_mul]
    by_cases e : l = j
    · rw [if_pos e, if_pos e, e]; grind
    · rw [if_neg e, if_neg e]; grind
  unfold ap
  rw [sm_congr e1, sm_sub, sm_single hj (fun l _ hl => if_neg hl), if_pos rfl, sm_swap]
  congr 1
  refine sm_congr fun t ht => ?_
  have h1 := hc t ht
  rw [← getD_nat ht] at h1
  rw [sm_single h1 fun l _ hl => by rw [if_neg (Ne.symm hl)]; grind, if_pos rfl]
theorem Part.row {m n : Nat} {R : Nat → Nat → Fin q} {c : List Nat} (h : Part m n R c) {i : Nat} (hi : i < m) (X : Nat → Fin q) : sm (fun t => R i (c.getD t 0) * X t) c.length = if i < c.length then X i else 0 := by
  have e : ∀ t, t < c.length → R i (c.getD t 0) * X t = if i = t then X t else 0 := fun t ht => by
    rw [getD_nat ht, h.unit i hi t ht]
    by_cases e : i = t
    · rw [if_pos e, if_pos e]; grind
    · rw [if_neg e, if_neg e]; grind
  rw [sm_congr e]
  by_cases hic : i < c.length
  · rw [if_pos hic, sm_single hic fun t _ ht => if_neg (Ne.symm ht), if_pos rfl]
  · rw [if_neg hic, sm_congr (g := fun _ => 0) fun t ht => if_neg (by omega), sm_zero]
theorem kv_ker {m n : Nat} {R : Nat → Nat → Fin q} {c : List Nat} (h : Part m n R c) {j : Nat} (hj : j < n) : Ker m n R (kv c R j) := fun i hi => by
  rw [ap_kv R R hj h.lt i, h.row hi]
  by_cases e : i < c.length
  · rw [if_pos e]; grind
  · rw [if_neg e, h.rest i (by omega) hi j hj]; grind
theorem pivot_zero {m n : Nat} {R : Nat → Nat → Fin q} {c : List Nat} (h : Part m n R c) {t : Nat} (ht : t < c.length) {x : Nat → Fin q} (hx : Ker m n R x) (h0 : ∀ l, c[t] < l → l < n → x l = 0) : x c[t] = 0 := by
  have hm : t < m := Nat.lt_of_lt_of_le ht h.len
  have h1 := hx t hm
  unfold ap at h1
  rw [sm_single (h.lt t ht) fun l hl hne => by
    rcases Nat.lt_or_gt_of_ne hne with e | e
    · rw [h.left t ht l e]; grind
    · rw [h0 l e hl]; grind, h.unit t hm t ht, if_pos rfl] at h1
  rw [← h1]; grind
theorem pivots_sub {m n : Nat} {R S : Nat → Nat → Fin q} {c d : List Nat} (h1 : (1 : Fin q) ≠ 0) (hR : Part m n R c) (hS : Part m n S d) (hk : ∀ x, Ker m n R x ↔ Ker m n S x) {j : Nat} (hj : j ∈ d) : j ∈ c := by
  apply Classical.byContradiction
  intro hc
  obtain ⟨t, ht, rfl⟩ := List.getElem_of_mem hj
  have h2 := pivot_zero hS ht ((hk _).1 (kv_ker hR (hS.lt t ht))) fun l hl _ => kv_right hR hl
  rw [kv_free R _ hc, if_pos rfl] at h2
  exact h1 h2
/-- Two reduced forms with one kernel are equal. -/
theorem part_unique {m n : Nat} {R S : Nat → Nat → Fin q} {c d : List Nat} (h1 : (1 : Fin q) ≠ 0) (hR : Part m n R c) (hS : Part m n S d) (hk : ∀ x, Ker m n R x ↔ Ker m n S x) : c = d ∧ ∀ i, i < m → ∀ j, j < n → R i j = S i j := by
  have hcd : c = d := sorted_ext hR.inc hS.inc fun j => ⟨fun h => pivots_sub h1 hS hR (fun x => (hk x).symm) h, fun h => pivots_sub h1 hR hS hk h⟩
  refine ⟨hcd, fun i hi j hj => ?_⟩
  subst hcd
  by_cases hic : i < c.length
  · have h2 := (hk _).1 (kv_ker hR hj) i hi
    rw [ap_kv S R hj hR.lt i, hS.row hi, if_pos hic] at h2
    have : ∀ x y : Fin q, x - y = 0 → y = x := fun x y h => by grind
    exact this _ _ h2
  · rw [hR.rest i (by omega) hi j hj, hS.rest i (by omega) hi j hj]
/-- A vector of the kernel that is 0 at all columns without pivot. -/
theorem ker_free {m n : Nat} {R : Nat → Nat → Fin q} {c : List Nat} (h : Part m n R c) {y : Nat → Fin q} (hy : Ker m n R y) (h0 : ∀ l, l < n → l ∉ c → y l = 0) : ∀ l, l < n → y l = 0 := fun l hl => by
  by_cases hm : l ∈ c
  · obtain ⟨t, ht, rfl⟩ := List.getElem_of_mem hm
    have htm : t < m := Nat.lt_of_lt_of_le ht h.len
    have h1 := hy t htm
    unfold ap at h1
    rw [sm_single hl fun k hk hne => by
      by_cases hkc : k ∈ c
      · obtain ⟨s, hs, rfl⟩ := List.getElem_of_mem hkc
        rw [h.unit t htm s hs, if_neg (fun e => by subst e; exact hne rfl)]; grind
      · rw [h0 k hk hkc]; grind, h.unit t htm t ht, if_pos rfl] at h1
    rw [← h1]; grind
  · exact h0 l hl hm
theorem ap_sub (n : Nat) (M : Nat → Nat → Fin q) (x y : Nat → Fin q) (i : Nat) : ap n M (fun l => x l - y l) i = ap n M x i - ap n M y i := by
  unfold ap
  rw [← sm_sub]; exact sm_congr fun l _ => by grind
/-- The solution that is 0 at all columns without pivot is the only one. -/
theorem sol_unique {m n : Nat} {M R : Nat → Nat → Fin q} {c : List Nat} (h : Part m n R c) (hk : ∀ x, Ker m n M x ↔ Ker m n R x) {b x y : Nat → Fin q} (hx : ∀ i, i < m → ap n M x i = b i) (hy : ∀ i, i < m → ap n M y i = b i)
    (hx0 : ∀ l, l < n → l ∉ c → x l = 0) (hy0 : ∀ l, l < n → l ∉ c → y l = 0) : ∀ l, l < n → x l = y l := fun l hl => by
  have h1 : Ker m n M fun l => x l - y l := fun i hi => by rw [ap_sub, hx i hi, hy i hi]; grind
  have h2 := ker_free h ((hk _).1 h1) (fun k hk hkc => by rw [hx0 k hk hkc, hy0 k hk hkc]; grind) l hl
  have : ∀ a b : Fin q, a - b = 0 → a = b := fun a b h => by grind
  exact this _ _ h2

/-- A matrix with one more column. -/
def wide (n : Nat) (M : Nat → Nat → Fin q) (b : Nat → Fin q) : Nat → Nat → Fin q := fun i j => if j < n then M i j else b i
theorem ap_wide (n : Nat) (M : Nat → Nat → Fin q) (b x : Nat → Fin q) (i : Nat) : ap (n + 1) (wide n M b) x i = ap n M x i + b i * x n := by
  unfold ap
  rw [sm]
  congr 1
  · exact sm_congr fun j hj => by unfold wide; rw [if_pos hj]
  · unfold wide; rw [if_neg (by omega)]
theorem Part.shrink {m n : Nat} {R : Nat → Nat → Fin q} {c : List Nat} (h : Part m (n + 1) R c) (hn : n ∉ c) : Part m n R c :=
  ⟨h.len, fun t ht => by
    have h1 := h.lt t ht
    have h2 : c[t] ≠ n := fun e => hn (by rw [← e]; exact List.getElem_mem ht)
    omega, h.inc, h.unit, h.left, fun i hi him l hl => h.rest i hi him l (by omega)⟩
theorem wide_ker {m n : Nat} {M R : Nat → Nat → Fin q} {b : Nat → Fin q} (hk : ∀ x, Ker m (n + 1) (wide n M b) x ↔ Ker m (n + 1) R x) (x : Nat → Fin q) : Ker m n M x ↔ Ker m n R x := by
  have e1 : ∀ i, ap (n + 1) (wide n M b) (fun l => if l < n then x l else 0) i = ap n M x i := fun i => by
    rw [ap_wide, if_neg (by omega), ap_congr (N := M) (k := i) (fun _ _ => rfl) fun j hj => if_pos hj]; grind
  have e2 : ∀ i, ap (n + 1) R (fun l => if l < n then x l else 0) i = ap n R x i := fun i => by
    have h : ap (n + 1) R (fun l => if l < n then x l else 0) i = ap n R (fun l => if l < n then x l else 0) i + R i n * (if n < n then x n else 0) := rfl
    rw [h, if_neg (by omega), ap_congr (N := R) (k := i) (fun _ _ => rfl) fun j hj => if_pos hj]; grind
  have h := hk (fun l => if l < n then x l else 0)
  unfold Ker at h ⊢
  simp only [e1, e2] at h
  exact h
/-- The solution that the reduced form of the wider matrix shows. -/
def sv (c : List Nat) (R : Nat → Nat → Fin q) (n : Nat) : Nat → Fin q := fun l => sm (fun t => if c.getD t 0 = l then R t n else 0) c.length
theorem sv_kv {c : List Nat} (R : Nat → Nat → Fin q) {n l : Nat} (hl : l < n) : kv c R n l = 0 - sv c R n l := by
  unfold kv sv
  rw [if_neg (by omega)]
theorem sv_free {c : List Nat} (R : Nat → Nat → Fin q) (n : Nat) {l : Nat} (h : l ∉ c) : sv c R n l = 0 := by
  unfold sv
  rw [sm_congr (g := fun _ => 0) fun t ht => if_neg fun e => h (by rw [← e, getD_nat ht]; exact List.getElem_mem ht), sm_zero]
theorem sv_pivot {m n : Nat} {R : Nat → Nat → Fin q} {c : List Nat} (h : Part m n R c) (k : Nat) {t : Nat} (ht : t < c.length) : sv c R k c[t] = R t k := by
  unfold sv
  rw [sm_single ht fun s hs hne => if_neg fun e => hne (h.inj hs ht (by rw [← getD_nat hs]; exact e)), getD_nat ht, if_pos rfl]
theorem solve_yes {m n : Nat} {M R : Nat → Nat → Fin q} {b : Nat → Fin q} {c : List Nat} (h : Part m (n + 1) R c) (hk : ∀ x, Ker m (n + 1) (wide n M b) x ↔ Ker m (n + 1) R x) (hn : n ∉ c) : ∀ i, i < m → ap n M (sv c R n) i = b i := fun i hi => by
  have h1 := (hk _).2 (kv_ker h (Nat.lt_succ_self n)) i hi
  rw [ap_wide, kv_free R n hn, if_pos rfl] at h1
  have h2 : ap n M (kv c R n) i = 0 - ap n M (sv c R n) i := by
    have : (0 : Fin q) - ap n M (sv c R n) i = ap n M (fun _ => 0) i - ap n M (sv c R n) i := by
      have : ap n M (fun _ => 0) i = 0 := by
        unfold ap
        rw [sm_congr (g := fun _ => 0) fun j _ => by grind, sm_zero]
      rw [this]
    rw [this, ← ap_sub]
    exact ap_congr (fun _ _ => rfl) fun j hj => sv_kv R hj
  rw [h2] at h1
  have : ∀ x y : Fin q, 0 - x + y * 1 = 0 → x = y := fun x y h => by grind
  exact this _ _ h1
theorem solve_no {m n : Nat} {M R : Nat → Nat → Fin q} {b : Nat → Fin q} {c : List Nat} (h1 : (1 : Fin q) ≠ 0) (h : Part m (n + 1) R c) (hk : ∀ x, Ker m (n + 1) (wide n M b) x ↔ Ker m (n + 1) R x) (hn : n ∈ c) (x : Nat → Fin q) : ¬ ∀ i, i < m → ap n M x i = b i := fun hx => by
  have h2 : Ker m (n + 1) (wide n M b) fun l => if l < n then x l else 0 - 1 := fun i hi => by
    rw [ap_wide, if_neg (by omega), ap_congr (N := M) (k := i) (fun _ _ => rfl) fun j hj => if_pos hj, hx i hi]; grind
  obtain ⟨t, ht, e⟩ := List.getElem_of_mem hn
  have h3 := pivot_zero h ht ((hk _).1 h2) fun l hl hl2 => by omega
  rw [e, if_neg (by omega)] at h3
  have : ∀ x : Fin q, 0 - x = 0 → x = 0 := fun x h => by grind
  exact h1 (this _ h3)

/-! Square matrices. -/
theorem full_pivots {m n : Nat} {R : Nat → Nat → Fin q} {c : List Nat} (h : Part m n R c) (hc : c.length = n) : ∀ t (ht : t < c.length), c[t] = t := by
  have lo : ∀ t (ht : t < c.length), t ≤ c[t] := fun t => by
    induction t with
    | zero => intro _; omega
    | succ t ih =>
      intro ht
      have := ih (by omega)
      have := h.get_lt ht (Nat.lt_succ_self t)
      omega
  have hi : ∀ d t (ht : t < c.length), t + d + 1 = c.length → c[t] ≤ t := fun d => by
    induction d with
    | zero => intro t ht e; have := h.lt t ht; omega
    | succ d ih =>
      intro t ht e
      have h1 := ih (t + 1) (by omega) (by omega)
      have h2 := h.get_lt (s := t) (t := t + 1) (by omega) (Nat.lt_succ_self t)
      omega
  intro t ht
  have h1 := lo t ht
  have h2 := hi (c.length - t - 1) t ht (by omega)
  omega
theorem full_one {n : Nat} {R : Nat → Nat → Fin q} {c : List Nat} (h : Part n n R c) (hc : c.length = n) : ∀ i, i < n → ∀ j, j < n → R i j = one i j := fun i hi j hj => by
  have e := full_pivots h hc j (by omega)
  have h1 := h.unit i hi j (by omega)
  rw [e] at h1; exact h1
theorem det_reduced {n : Nat} {M R : Nat → Nat → Fin q} {c : List Nat} (h1 : (1 : Fin q) ≠ 0) (ho : Ops n M R) (h : Part n n R c) : det n M ≠ 0 ↔ c.length = n := by
  obtain ⟨u, v, huv, hd⟩ := ho.det
  constructor
  · intro hne
    apply Classical.byContradiction
    intro hc
    have hl := h.len
    have : det n R = 0 := det_zero_row (r := n - 1) (by omega) R fun j hj => h.rest (n - 1) (by omega) (by omega) j hj
    exact hne (by rw [hd, this]; grind)
  · intro hc e
    rw [hd, det_congr n (full_one h hc), det_one] at e
    have : u = 0 := by rw [← e]; grind
    rw [this] at huv
    exact h1 (by rw [← huv]; grind)
theorem mul_one_left {n : Nat} {R : Nat → Nat → Fin q} (h : ∀ i, i < n → ∀ j, j < n → R i j = one i j) (B : Nat → Nat → Fin q) {i : Nat} (hi : i < n) (j : Nat) : mul n R B i j = B i j := by
  unfold mul
  rw [sm_single hi fun l hl hne => by rw [h i hi l hl]; unfold one; rw [if_neg (Ne.symm hne)]; grind, h i hi i hi]
  unfold one; rw [if_pos rfl]; grind
/-- The determinant of a product. -/
theorem det_mul (hF : Fld q) (n : Nat) (A B : Nat → Nat → Fin q) : det n (mul n A B) = det n A * det n B := by
  obtain ⟨R, c, ho, hp⟩ := exists_part hF n A n
  have key : ∀ {M N : Nat → Nat → Fin q}, Ops n M N → det n (mul n N B) = det n N * det n B → det n (mul n M B) = det n M * det n B := fun {M N} h => by
    induction h with
    | refl => exact id
    | @swap N r s h0 hr hs hne ih =>
      intro e
      refine ih ?_
      have h2 : det n (mul n (swap r s N) B) = 0 - det n (mul n N B) := by
        rw [← det_swap hr hs hne]
        congr 1
        funext i j
        unfold swap mul
        by_cases h1 : i = r
        · simp only [if_pos h1]
        · by_cases h2 : i = s
          · simp only [if_neg h1, if_pos h2]
          · simp only [if_neg h1, if_neg h2]
      rw [h2, det_swap hr hs hne] at e
      have : ∀ x y z : Fin q, 0 - x = (0 - y) * z → x = y * z := fun x y z h => by grind
      exact this _ _ _ e
    | @scale N r a d h0 hr had ih =>
      intro e
      refine ih ?_
      have h2 : det n (mul n (rowSet N r fun j => a * N r j) B) = a * det n (mul n N B) := by
        rw [← det_scale hr]
        congr 1
        funext i j
        by_cases h1 : i = r
        · subst h1; rw [rowSet_at]
          show sm (fun l => rowSet N i _ i l * B l j) n = _
          simp only [rowSet_at]
          exact sm_scale a (N i) (fun l => B l j) n
        · rw [rowSet_off _ h1]
          show sm (fun l => rowSet N r _ i l * B l j) n = _
          simp only [rowSet_off _ h1]
          rfl
      rw [h2, det_scale hr] at e
      have h3 : d * (a * det n (mul n N B)) = det n (mul n N B) := by
        have : d * (a * det n (mul n N B)) = (a * d) * det n (mul n N B) := by grind
        rw [this, had]; grind
      have h4 : d * (a * det n N * det n B) = det n N * det n B := by
        have : d * (a * det n N * det n B) = (a * d) * (det n N * det n B) := by grind
        rw [this, had]; grind
      rw [← h3, e, h4]
    | @add N r s a h0 hr hs hne ih =>
      intro e
      refine ih ?_
      have h2 : det n (mul n (rowSet N r fun j => N r j + a * N s j) B) = det n (mul n N B) := by
        rw [← det_add hr hs hne a (mul n N B)]
        congr 1
        funext i j
        by_cases h1 : i = r
        · subst h1; rw [rowSet_at]
          show sm (fun l => rowSet N i _ i l * B l j) n = _
          simp only [rowSet_at]
          exact sm_addmul a (N i) (N s) (fun l => B l j) n
        · rw [rowSet_off _ h1]
          show sm (fun l => rowSet N r _ i l * B l j) n = _
          simp only [rowSet_off _ h1]
          rfl
      rw [h2, det_add hr hs hne] at e
      exact e
  refine key ho ?_
  by_cases hc : c.length = n
  · have h1 := full_one hp hc
    rw [det_congr n h1, det_one, det_congr n (N := B) fun i hi j _ => mul_one_left h1 B hi j]; grind
  · have hl := hp.len
    have h0 : ∀ j, j < n → R (n - 1) j = 0 := fun j hj => hp.rest (n - 1) (by omega) (by omega) j hj
    rw [det_zero_row (r := n - 1) (by omega) R h0, det_zero_row (r := n - 1) (by omega) (mul n R B) fun j _ => by
      unfold mul
      rw [sm_congr (g := fun _ => 0) fun l hl => by rw [h0 l hl]; grind, sm_zero]]
    grind
end Go.Proofs.Ytdcdaclkeocfpaa.Po
