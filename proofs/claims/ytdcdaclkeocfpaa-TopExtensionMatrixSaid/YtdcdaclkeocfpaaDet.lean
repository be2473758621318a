/- Determinants over the numbers modulo q, by the expansion along the first column: rows are linear, equal rows give 0. Nothing here speaks of the program. -/
import Derived.Test.YtdcdaclkeocfpaaFft
namespace Go.Proofs.Ytdcdaclkeocfpaa.Po
variable {q : Nat} [NeZero q]

/-- The sum where all but two terms are 0. -/
theorem sm_two {f : Nat → Fin q} {r s n : Nat} (hr : r < n) (hs : s < n) (hne : r ≠ s) (h : ∀ i, i < n → i ≠ r → i ≠ s → f i = 0) : sm f n = f r + f s := by
  have e : ∀ i, i < n → f i = (if i = r then f r else 0) + (if i = s then f s else 0) := fun i hi => by
    by_cases h1 : i = r
    · subst h1; rw [if_pos rfl, if_neg hne]; grind
    · by_cases h2 : i = s
      · subst h2; rw [if_neg h1, if_pos rfl]; grind
      · rw [if_neg h1, if_neg h2, h i hi h1 h2]; grind
  rw [sm_congr e, sm_add, sm_single hr (fun i _ hi => if_neg hi), sm_single hs (fun i _ hi => if_neg hi), if_pos rfl, if_pos rfl]

/-- The k-th index, where i is left out. -/
def skip (i k : Nat) : Nat := if k < i then k else k + 1
/-- Where index r stands, when i is left out. -/
def back (i r : Nat) : Nat := if r < i then r else r - 1
def minor (M : Nat → Nat → Fin q) (i : Nat) : Nat → Nat → Fin q := fun r c => M (skip i r) (c + 1)
def sg (i : Nat) : Fin q := if i % 2 = 0 then 1 else 0 - 1
theorem sg_succ (i : Nat) : (sg (i + 1) : Fin q) = 0 - sg i := by
  unfold sg
  rcases Nat.mod_two_eq_zero_or_one i with e | e
  · rw [if_neg (by omega), if_pos e]
  · rw [if_pos (by omega), if_neg (by omega)]; grind
def det : Nat → (Nat → Nat → Fin q) → Fin q
  | 0, _ => 1
  | n + 1, M => sm (fun i => sg i * (M i 0 * det n (minor M i))) (n + 1)
theorem skip_lt {i k n : Nat} (hk : k < n) : skip i k < n + 1 := by unfold skip; split <;> omega
theorem skip_ne (i k : Nat) : skip i k ≠ i := by unfold skip; split <;> omega
theorem skip_back {i r : Nat} (h : i ≠ r) : skip i (back i r) = r := by unfold skip back; split <;> (try split) <;> omega
theorem skip_iff {i r a : Nat} (h : i ≠ r) : skip i a = r ↔ a = back i r := by unfold skip back; split <;> split <;> omega
theorem back_lt {i r n : Nat} (h : i ≠ r) (hr : r < n + 1) (hi : i < n + 1) : back i r < n := by unfold back; split <;> omega
theorem det_congr : ∀ n {M N : Nat → Nat → Fin q}, (∀ i, i < n → ∀ j, j < n → M i j = N i j) → det n M = det n N
  | 0, _, _, _ => rfl
  | n + 1, M, N, h => by
    rw [det, det]
    refine sm_congr fun i hi => ?_
    rw [h i hi 0 (by omega), det_congr n (M := minor M i) (N := minor N i) fun r hr c hc => h _ (skip_lt hr) _ (by omega)]
/-- Row r replaced. -/
def rowSet (M : Nat → Nat → Fin q) (r : Nat) (v : Nat → Fin q) : Nat → Nat → Fin q := fun i j => if i = r then v j else M i j
omit [NeZero q] in
theorem rowSet_at (M : Nat → Nat → Fin q) (r : Nat) (v : Nat → Fin q) (j : Nat) : rowSet M r v r j = v j := if_pos rfl
omit [NeZero q] in
theorem rowSet_off (M : Nat → Nat → Fin q) {i r : Nat} (h : i ≠ r) (v : Nat → Fin q) (j : Nat) : rowSet M r v i j = M i j := if_neg h
omit [NeZero q] in
theorem rowSet_self (M : Nat → Nat → Fin q) (r : Nat) : rowSet M r (M r) = M := funext fun i => funext fun j => by
  by_cases h : i = r
  · subst h; rw [rowSet_at]
  · rw [rowSet_off _ h]
omit [NeZero q] in
theorem rowSet_comm (M : Nat → Nat → Fin q) {r s : Nat} (h : r ≠ s) (u v : Nat → Fin q) : rowSet (rowSet M r u) s v = rowSet (rowSet M s v) r u := funext fun i => funext fun j => by
  unfold rowSet
  by_cases h1 : i = s
  · subst h1; rw [if_pos rfl, if_neg (Ne.symm h), if_pos rfl]
  · rw [if_neg h1]
    by_cases h2 : i = r
    · rw [if_pos h2, if_pos h2]
    · rw [if_neg h2, if_neg h2, if_neg h1]
omit [NeZero q] in
theorem minor_same (M : Nat → Nat → Fin q) (r : Nat) (v : Nat → Fin q) : minor (rowSet M r v) r = minor M r := funext fun i => funext fun j => rowSet_off M (skip_ne r i) v (j + 1)
omit [NeZero q] in
theorem minor_rowSet (M : Nat → Nat → Fin q) {i r : Nat} (h : i ≠ r) (v : Nat → Fin q) : minor (rowSet M r v) i = rowSet (minor M i) (back i r) (fun j => v (j + 1)) := funext fun a => funext fun b => by
  unfold minor rowSet
  by_cases e : a = back i r
  · rw [if_pos ((skip_iff h).2 e), if_pos e]
  · rw [if_neg (fun x => e ((skip_iff h).1 x)), if_neg e]
/-- The determinant is linear in each row. -/
theorem det_row : ∀ n (M : Nat → Nat → Fin q) {r : Nat}, r < n → ∀ (a b : Fin q) (u v : Nat → Fin q), det n (rowSet M r fun j => a * u j + b * v j) = a * det n (rowSet M r u) + b * det n (rowSet M r v)
  | 0, _, _, hr, _, _, _, _ => by omega
  | n + 1, M, r, hr, a, b, u, v => by
    rw [det, det, det, ← sm_mul, ← sm_mul, ← sm_add]
    refine sm_congr fun i hi => ?_
    by_cases e : i = r
    · subst e
      rw [minor_same, minor_same, minor_same, rowSet_at, rowSet_at, rowSet_at]
      grind
    · rw [minor_rowSet M e, minor_rowSet M e, minor_rowSet M e, rowSet_off M e, rowSet_off M e, rowSet_off M e, det_row n (minor M i) (back_lt e hr hi) a b (fun j => u (j + 1)) (fun j => v (j + 1))]
      grind
/-- Two equal rows, one after the other. -/
theorem det_next : ∀ n (M : Nat → Nat → Fin q) {r : Nat}, r + 1 < n → (∀ j, j < n → M r j = M (r + 1) j) → det n M = 0
  | 0, _, _, hr, _ => by omega
  | n + 1, M, r, hr, h => by
    have h0 : ∀ i, i < n + 1 → i ≠ r → i ≠ r + 1 → sg i * (M i 0 * det n (minor M i)) = 0 := fun i hi h1 h2 => by
      have : det n (minor M i) = 0 := by
        refine det_next n (minor M i) (r := back i r) (by unfold back; split <;> omega) fun j hj => ?_
        show M (skip i (back i r)) (j + 1) = M (skip i (back i r + 1)) (j + 1)
        have e2 : skip i (back i r + 1) = r + 1 := by unfold skip back; split <;> split <;> omega
        rw [skip_back h1, e2]; exact h _ (by omega)
      rw [this]; grind
    have hm : det n (minor M r) = det n (minor M (r + 1)) := det_congr n fun a ha b hb => by
      show M (skip r a) (b + 1) = M (skip (r + 1) a) (b + 1)
      by_cases e : a = r
      · subst e
        rw [show skip a a = a + 1 by unfold skip; rw [if_neg (by omega)], show skip (a + 1) a = a by unfold skip; rw [if_pos (by omega)]]
        exact (h _ (by omega)).symm
      · rw [show skip r a = skip (r + 1) a by unfold skip; split <;> split <;> omega]
    rw [det, sm_two (r := r) (s := r + 1) (by omega) hr (by omega) h0, hm, sg_succ, h 0 (by omega)]
    grind
/-- Rows r and s exchanged. -/
def swap (r s : Nat) (M : Nat → Nat → Fin q) : Nat → Nat → Fin q := fun i j => if i = r then M s j else if i = s then M r j else M i j
omit [NeZero q] in
theorem swap_rowSet (M : Nat → Nat → Fin q) {r s : Nat} (h : r ≠ s) : swap r s M = rowSet (rowSet M r (M s)) s (M r) := funext fun i => funext fun j => by
  unfold swap rowSet
  by_cases h1 : i = r
  · subst h1; rw [if_pos rfl, if_neg h, if_pos rfl]
  · rw [if_neg h1]
    by_cases h2 : i = s
    · rw [if_pos h2, if_pos h2]
    · rw [if_neg h2, if_neg h2, if_neg h1]
theorem swap_of {n r s : Nat} (hr : r < n) (hs : s < n) (hne : r ≠ s) (h0 : ∀ M : Nat → Nat → Fin q, (∀ j, j < n → M r j = M s j) → det n M = 0) (M : Nat → Nat → Fin q) : det n (swap r s M) = 0 - det n M := by
  have L1 : ∀ a b c : Nat → Fin q, det n (rowSet (rowSet M r a) s fun j => 1 * b j + 1 * c j) = 1 * det n (rowSet (rowSet M r a) s b) + 1 * det n (rowSet (rowSet M r a) s c) := fun a b c => det_row n _ hs 1 1 b c
  have L2 : ∀ a c b : Nat → Fin q, det n (rowSet (rowSet M r fun j => 1 * a j + 1 * c j) s b) = 1 * det n (rowSet (rowSet M r a) s b) + 1 * det n (rowSet (rowSet M r c) s b) := fun a c b => by
    rw [rowSet_comm M hne, rowSet_comm M hne, rowSet_comm M hne]
    exact det_row n _ hr 1 1 a c
  have z : ∀ a : Nat → Fin q, det n (rowSet (rowSet M r a) s a) = 0 := fun a => h0 _ fun j _ => by rw [rowSet_off _ hne, rowSet_at, rowSet_at]
  have e := z (fun j => 1 * M r j + 1 * M s j)
  rw [L1, L2, L2, z, z] at e
  have hM : rowSet (rowSet M r (M r)) s (M s) = M := by rw [rowSet_self, rowSet_self]
  rw [hM, ← swap_rowSet M hne] at e
  have : ∀ x y : Fin q, 1 * (1 * 0 + 1 * x) + 1 * (1 * y + 1 * 0) = 0 → x = 0 - y := fun x y h => by grind
  exact this _ _ e
theorem det_equal {n : Nat} : ∀ d r (M : Nat → Nat → Fin q), r + (d + 1) < n → (∀ j, j < n → M r j = M (r + (d + 1)) j) → det n M = 0
  | 0, r, M, hr, h => det_next n M hr h
  | d + 1, r, M, hr, h => by
    have h1 := swap_of (n := n) (r := r + (d + 1)) (s := r + (d + 1) + 1) (by omega) (by omega) (by omega) (fun N hN => det_next n N (by omega) hN) M
    have h2 : det n (swap (r + (d + 1)) (r + (d + 1) + 1) M) = 0 := det_equal d r _ (by omega) fun j hj => by
      unfold swap
      rw [if_neg (by omega), if_neg (by omega), if_pos rfl]
      exact h j hj
    rw [h2] at h1
    have : ∀ x : Fin q, 0 = 0 - x → x = 0 := fun x h => by grind
    exact this _ h1
theorem det_eq_rows {n r s : Nat} (hr : r < n) (hs : s < n) (hne : r ≠ s) (M : Nat → Nat → Fin q) (h : ∀ j, j < n → M r j = M s j) : det n M = 0 := by
  rcases Nat.lt_or_gt_of_ne hne with hlt | hlt
  · obtain ⟨d, rfl⟩ : ∃ d, s = r + (d + 1) := ⟨s - r - 1, by omega⟩
    exact det_equal d r M hs h
  · obtain ⟨d, rfl⟩ : ∃ d, r = s + (d + 1) := ⟨r - s - 1, by omega⟩
    exact det_equal d s M hr fun j hj => (h j hj).symm
/-- An exchange of two rows turns the sign. -/
theorem det_swap {n r s : Nat} (hr : r < n) (hs : s < n) (hne : r ≠ s) (M : Nat → Nat → Fin q) : det n (swap r s M) = 0 - det n M := swap_of hr hs hne (fun N hN => det_eq_rows hr hs hne N hN) M
/-- A multiple of another row is added. -/
theorem det_add {n r s : Nat} (hr : r < n) (hs : s < n) (hne : r ≠ s) (c : Fin q) (M : Nat → Nat → Fin q) : det n (rowSet M r fun j => M r j + c * M s j) = det n M := by
  have e : (fun j => M r j + c * M s j) = fun j => 1 * M r j + c * M s j := funext fun j => by grind
  rw [e, det_row n M hr 1 c (M r) (M s), rowSet_self, det_eq_rows hr hs hne (rowSet M r (M s)) fun j _ => by rw [rowSet_at, rowSet_off _ (Ne.symm hne)]]
  grind
theorem det_scale {n r : Nat} (hr : r < n) (c : Fin q) (M : Nat → Nat → Fin q) : det n (rowSet M r fun j => c * M r j) = c * det n M := by
  have e : (fun j => c * M r j) = fun j => c * M r j + 0 * M r j := funext fun j => by grind
  rw [e, det_row n M hr c 0 (M r) (M r), rowSet_self]
  grind
theorem det_zero_row {n r : Nat} (hr : r < n) (M : Nat → Nat → Fin q) (h : ∀ j, j < n → M r j = 0) : det n M = 0 := by
  have e : det n M = det n (rowSet M r fun j => 0 * M r j) := det_congr n fun i hi j hj => by
    by_cases e : i = r
    · subst e; rw [rowSet_at, h j hj]; grind
    · rw [rowSet_off _ e]
  rw [e, det_scale hr]; grind
/-- The product of the first n. -/
def pd : (Nat → Fin q) → Nat → Fin q
  | _, 0 => 1
  | f, n + 1 => f 0 * pd (fun i => f (i + 1)) n
theorem pd_snoc : ∀ (n : Nat) (f : Nat → Fin q), pd f (n + 1) = pd f n * f n
  | 0, f => by show f 0 * 1 = 1 * f 0; grind
  | n + 1, f => by
    rw [pd, pd_snoc n, pd]; grind
theorem det_upper : ∀ n (M : Nat → Nat → Fin q), (∀ i, i < n → ∀ j, j < i → M i j = 0) → det n M = pd (fun i => M i i) n
  | 0, _, _ => rfl
  | n + 1, M, h => by
    rw [det, sm_single (k := 0) (by omega) fun i hi h0 => by rw [h i hi 0 (by omega)]; grind]
    have e : minor M 0 = fun r c => M (r + 1) (c + 1) := funext fun r => funext fun c => by
      show M (skip 0 r) (c + 1) = _
      rw [show skip 0 r = r + 1 by unfold skip; rw [if_neg (by omega)]]
    rw [e, det_upper n _ fun i hi j hj => h _ (by omega) _ (by omega), pd]
    show (if 0 % 2 = 0 then 1 else 0 - 1) * _ = _
    rw [if_pos rfl]; grind
/-- The identity. -/
def one : Nat → Nat → Fin q := fun i j => if i = j then 1 else 0
theorem pd_one {f : Nat → Fin q} : ∀ {n : Nat}, (∀ i, i < n → f i = 1) → pd f n = 1
  | 0, _ => rfl
  | n + 1, h => by rw [pd_snoc, pd_one fun i hi => h i (by omega), h n (by omega)]; grind
theorem det_one (n : Nat) : det n (one : Nat → Nat → Fin q) = 1 := by
  rw [det_upper n one fun i _ j hj => if_neg (by omega)]
  exact pd_one fun i _ => if_pos rfl
end Go.Proofs.Ytdcdaclkeocfpaa.Po
