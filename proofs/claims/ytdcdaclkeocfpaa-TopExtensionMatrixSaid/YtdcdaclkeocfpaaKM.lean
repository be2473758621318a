/- The inverse of a matrix: a left inverse is a right one and the only one; what a reduced form of (A | 1) says. What an inverse is held against; the products with it. Solutions and the kernel: a solution less its free elements' vectors is the one that Solve returns. -/
import Derived.Test.YtdcdaclkeocfpaaKK
namespace Go.Proofs.Ytdcdaclkeocfpaa.Po
variable {q : Nat} [NeZero q]

theorem mul_assoc (n : Nat) (A B C : Nat → Nat → Fin q) (i j : Nat) : mul n A (mul n B C) i j = mul n (mul n A B) C i j := by
  unfold mul
  have e1 : ∀ l, l < n → A i l * sm (fun k => B l k * C k j) n = sm (fun k => A i l * (B l k * C k j)) n := fun l _ => (sm_mul _ _ n).symm
  rw [sm_congr e1, sm_swap]
  refine sm_congr fun k _ => ?_
  have : sm (fun l => A i l * (B l k * C k j)) n = sm (fun l => C k j * (A i l * B l k)) n := sm_congr fun l _ => by grind
  rw [this, sm_mul]; grind
theorem mul_congr {n : Nat} {A A' B B' : Nat → Nat → Fin q} {i j : Nat} (hA : ∀ l, l < n → A i l = A' i l) (hB : ∀ l, l < n → B l j = B' l j) : mul n A B i j = mul n A' B' i j :=
  sm_congr fun l hl => by rw [hA l hl, hB l hl]
theorem mul_one_right {n : Nat} {R : Nat → Nat → Fin q} (h : ∀ i, i < n → ∀ j, j < n → R i j = one i j) (A : Nat → Nat → Fin q) (i : Nat) {j : Nat} (hj : j < n) : mul n A R i j = A i j := by
  unfold mul
  rw [sm_single hj fun l hl hne => by rw [h l hl j hj]; unfold one; rw [if_neg hne]; grind]
  rw [h j hj j hj]; unfold one; rw [if_pos rfl]; grind
/-- A matrix whose determinant is not 0 sends nothing else to 0. -/
theorem ker_full (hF : Fld q) (h1 : (1 : Fin q) ≠ 0) {n : Nat} {X : Nat → Nat → Fin q} (hd : det n X ≠ 0) {y : Nat → Fin q} (hy : Ker n n X y) : ∀ l, l < n → y l = 0 := by
  obtain ⟨R, c, ho, hp⟩ := exists_part hF n X n
  have hc := (det_reduced h1 ho hp).1 hd
  refine ker_free hp ((ho.ker n y).1 hy) fun l hl hlc => absurd ?_ hlc
  have h2 := full_pivots hp hc l (by omega)
  have h3 : c[l]'(by omega) ∈ c := List.getElem_mem _
  rw [h2] at h3; exact h3
theorem inv_det (hF : Fld q) (h1 : (1 : Fin q) ≠ 0) {n : Nat} {A X : Nat → Nat → Fin q} (h : ∀ i, i < n → ∀ j, j < n → mul n X A i j = one i j) : det n X ≠ 0 ∧ det n A ≠ 0 := by
  have h2 := det_mul hF n X A
  rw [det_congr n h, det_one] at h2
  exact ⟨fun e => h1 (by rw [h2, e]; grind), fun e => h1 (by rw [h2, e]; grind)⟩
/-- A left inverse is a right one. -/
theorem inv_right (hF : Fld q) (h1 : (1 : Fin q) ≠ 0) {n : Nat} {A X : Nat → Nat → Fin q} (h : ∀ i, i < n → ∀ j, j < n → mul n X A i j = one i j) : ∀ i, i < n → ∀ j, j < n → mul n A X i j = one i j := fun i hi j hj => by
  have hk : Ker n n X (fun l => mul n A X l j - one l j) := fun k hk => by
    rw [ap_sub]
    have e1 : ap n X (fun l => mul n A X l j) k = mul n X (mul n A X) k j := rfl
    have e2 : ap n X (fun l => one l j) k = mul n X one k j := rfl
    rw [e1, e2, mul_assoc, mul_one_right (fun _ _ _ _ => rfl) X k hj, mul_congr (A' := one) (B' := X) (fun l hl => h k hk l hl) (fun _ _ => rfl), mul_one_left (fun _ _ _ _ => rfl) X hk]; grind
  have h2 := ker_full hF h1 (inv_det hF h1 h).1 hk i hi
  have h3 : ∀ a b : Fin q, a - b = 0 → a = b := fun a b h => by grind
  exact h3 _ _ h2
theorem inv_unique (hF : Fld q) (h1 : (1 : Fin q) ≠ 0) {n : Nat} {A X Y : Nat → Nat → Fin q} (h : ∀ i, i < n → ∀ j, j < n → mul n X A i j = one i j) (k : ∀ i, i < n → ∀ j, j < n → mul n Y A i j = one i j) : ∀ i, i < n → ∀ j, j < n → X i j = Y i j := fun i hi j hj => by
  have hr := inv_right hF h1 k
  rw [← mul_one_right hr X i hj, mul_assoc, mul_congr (A' := one) (B' := Y) (fun l hl => h i hi l hl) (fun _ _ => rfl), mul_one_left (fun _ _ _ _ => rfl) Y hi]

/-- (A | B), n columns wide each. -/
def aug (n : Nat) (A B : Nat → Nat → Fin q) : Nat → Nat → Fin q := fun i j => if j < n then A i j else B i (j - n)
theorem ap_aug (n : Nat) (A B : Nat → Nat → Fin q) (z : Nat → Fin q) (i : Nat) : ap (n + n) (aug n A B) z i = ap n A z i + ap n B (fun k => z (n + k)) i := by
  unfold ap
  rw [sm_halves]
  congr 1
  · exact sm_congr fun j hj => by unfold aug; rw [if_pos hj]
  · exact sm_congr fun j _ => by unfold aug; rw [if_neg (by omega), Nat.add_sub_cancel_left]
/-- Where (A | 1) and (1 | B) send the same vectors to 0, B is the inverse of A. -/
theorem inv_aug {n : Nat} {A B E F : Nat → Nat → Fin q} (hE : ∀ i, i < n → ∀ j, j < n → E i j = one i j) (hF : ∀ i, i < n → ∀ j, j < n → F i j = one i j)
    (hk : ∀ z, Ker n (n + n) (aug n A E) z → Ker n (n + n) (aug n F B) z) : ∀ i, i < n → ∀ j, j < n → mul n B A i j = one i j := fun i hi j hj => by
  have hz : Ker n (n + n) (aug n A E) fun l => if l < n then one l j else 0 - A (l - n) j := fun k hk => by
    rw [ap_aug, ap_congr (N := A) (y := fun l => one l j) (k := k) (fun _ _ => rfl) (fun l hl => if_pos hl), ap_congr (N := E) (y := fun l => 0 - A l j) (k := k) (fun _ _ => rfl) (fun l hl => by rw [if_neg (by omega), Nat.add_sub_cancel_left])]
    have e1 : ap n A (fun l => one l j) k = mul n A one k j := rfl
    have e2 : ap n E (fun l => 0 - A l j) k = mul n E (fun l j => 0 - A l j) k j := rfl
    rw [e1, e2, mul_one_right (fun _ _ _ _ => rfl) A k hj, mul_one_left hE _ hk]; grind
  have h2 := hk _ hz i hi
  rw [ap_aug, ap_congr (N := F) (y := fun l => one l j) (k := i) (fun _ _ => rfl) (fun l hl => if_pos hl), ap_congr (N := B) (y := fun l => 0 - A l j) (k := i) (fun _ _ => rfl) (fun l hl => by rw [if_neg (by omega), Nat.add_sub_cancel_left])] at h2
  have e1 : ap n F (fun l => one l j) i = mul n F one i j := rfl
  have e2 : ap n B (fun l => 0 - A l j) i = 0 - mul n B A i j := by
    unfold ap mul
    have e3 : sm (fun l => B i l * (0 - A l j)) n = sm (fun l => (0 - 1) * (B i l * A l j)) n := sm_congr fun l _ => by grind
    rw [e3, sm_mul]; grind
  rw [e1, e2, mul_one_right (fun _ _ _ _ => rfl) F i hj, hF i hi j hj] at h2
  have h3 : ∀ a b : Fin q, a + (0 - b) = 0 → b = a := fun a b h => by grind
  exact h3 _ _ h2
end Go.Proofs.Ytdcdaclkeocfpaa.Po

namespace Go.Proofs.Ytdcdaclkeocfpaa
open Go.RowKit Go.BigFrame
open Classical

/-- What Inverse returns. -/
structure InvOf (p : Int) (M : List (List Int)) (fb : Bool) (X : List (List Int)) : Prop where
  bad : ¬ (OkM p M ∧ M.length = cols M) → fb = false ∧ X = []
  good : OkM p M → M.length = cols M → (fb = true ∧ Mt p M.length M.length X ∧ ∀ i, i < M.length → ∀ j, j < M.length → Po.mul M.length (mf p X) (mf p M) i j = Po.one i j) ∨ (fb = false ∧ X = [] ∧ Po.det M.length (mf p M) = 0)
theorem InvOf.det {p : Int} {M X : List (List Int)} {fb : Bool} (h : InvOf p M fb X) : fb = (detI p M != 0) := by
  unfold detI
  by_cases hb : OkM p M ∧ M.length = cols M
  · rw [if_pos hb]
    rcases h.good hb.1 hb.2 with ⟨rfl, _, h2⟩ | ⟨rfl, _, h2⟩
    · have h3 := (Po.inv_det (fld hb.1.1) (one_nz hb.1.1) h2).2
      symm
      refine bne_iff_ne.2 fun e => h3 ?_
      rw [← ph_ival hb.1.1 (Po.det _ _), e, ph_zero hb.1.1]
    · rw [h2, ival_z hb.1.1]; rfl
  · rw [if_neg hb, (h.bad hb).1]; rfl
theorem InvOf.none {p : Int} {M X : List (List Int)} (h : InvOf p M false X) : X = [] := by
  by_cases hb : OkM p M ∧ M.length = cols M
  · rcases h.good hb.1 hb.2 with ⟨e, _⟩ | ⟨_, h2, _⟩
    · cases e
    · exact h2
  · exact (h.bad hb).2
theorem InvOf.some {p : Int} {M X : List (List Int)} (h : InvOf p M true X) : OkM p M ∧ M.length = cols M ∧ Mt p M.length M.length X ∧ ∀ i, i < M.length → ∀ j, j < M.length → Po.mul M.length (mf p X) (mf p M) i j = Po.one i j := by
  by_cases hb : OkM p M ∧ M.length = cols M
  · rcases h.good hb.1 hb.2 with ⟨_, h2, h3⟩ | ⟨e, _⟩
    · exact ⟨hb.1, hb.2, h2, h3⟩
    · cases e
  · exact absurd (h.bad hb).1 (by decide)
theorem ival_id {p : Int} (hk : known p = true) (i j : Nat) : ival p (Po.one i j) = if i = j then 1 else 0 := by
  unfold Po.one
  split
  · exact ival_one hk
  · exact ival_z hk
theorem Mt.okM {p : Int} (hk : known p = true) {X : List (List Int)} {n : Nat} (h : Mt p n n X) (hn : 0 < n) (h64 : n ≤ 64) : OkM p X ∧ cols X = n := by
  have hc : cols X = n := by rw [cols_at (by rw [h.len]; exact hn), h.row 0 (by rw [h.len]; exact hn)]
  exact ⟨⟨hk, fun i hi => by rw [hc]; exact ⟨h.row i hi, by rw [h.row i hi]; exact h64⟩, by rw [h.len]; exact h64⟩, hc⟩
theorem mulM_one {p : Int} {A B : List (List Int)} {n : Nat} (ha : OkM p A) (hb : OkM p B) (la : A.length = n) (lb : B.length = n) (ca : cols A = n) (cb : cols B = n) (h : ∀ i, i < n → ∀ j, j < n → Po.mul n (mf p A) (mf p B) i j = Po.one i j) : mulM p A B = idL n := by
  unfold mulM
  rw [if_pos ⟨ha, hb, by rw [lb, ca]⟩, la, lb, cb]
  refine List.map_congr_left fun i hi => List.map_congr_left fun j hj => ?_
  rw [h i (List.mem_range.1 hi) j (List.mem_range.1 hj), ival_id ha.1]
/-- Both products with the inverse are the identity. -/
theorem InvOf.products {p : Int} {M X : List (List Int)} (h : InvOf p M true X) (hn : 0 < M.length) : mulM p X M = idL M.length ∧ mulM p M X = idL M.length := by
  obtain ⟨hok, hc, hm, hx⟩ := h.some
  obtain ⟨hX, cX⟩ := hm.okM hok.1 hn hok.2.2
  exact ⟨mulM_one hX hok hm.len rfl cX hc.symm hx, mulM_one hok hX rfl hm.len hc.symm cX (Po.inv_right (fld hok.1) (one_nz hok.1) hx)⟩
/-- Inverse's answer is one. -/
theorem InvOf.unique {p : Int} {M X Y : List (List Int)} {a b : Bool} (h : InvOf p M a X) (k : InvOf p M b Y) : a = b ∧ X = Y := by
  obtain rfl : a = b := by rw [h.det, k.det]
  refine ⟨rfl, ?_⟩
  cases a with
  | false => rw [h.none, k.none]
  | true =>
    obtain ⟨hok, _, hm, hx⟩ := h.some
    obtain ⟨_, _, km, kx⟩ := k.some
    exact Mt.ext hok.1 hm km (Po.inv_unique (fld hok.1) (one_nz hok.1) hx kx)
/-- The determinant of a product. -/
theorem detI_mul {p : Int} {A B : List (List Int)} (ha : OkM p A) (hb : OkM p B) (sa : A.length = cols A) (sb : B.length = cols B) (hab : A.length = B.length) : detI p (mulM p A B) = ml p (detI p A) (detI p B) := by
  have hk := ha.1
  have hm : mulM p A B = (List.range A.length).map fun i => (List.range (cols B)).map fun j => ival p (Po.mul B.length (mf p A) (mf p B) i j) := by unfold mulM; rw [if_pos ⟨ha, hb, by omega⟩]
  have hl : (mulM p A B).length = A.length := by rw [hm]; simp
  have hrow : ∀ i (h : i < (mulM p A B).length), (mulM p A B)[i].length = A.length := fun i h => by simp only [hm, List.getElem_map, List.length_map, List.length_range]; omega
  have hc : cols (mulM p A B) = A.length := by
    by_cases h0 : 0 < A.length
    · rw [cols_at (by rw [hl]; exact h0), hrow]
    · rw [show mulM p A B = [] from List.length_eq_zero_iff.1 (by omega)]; simp [cols]; omega
  have hok : OkM p (mulM p A B) := ⟨hk, fun i h => by rw [hc, hrow i h]; exact ⟨rfl, ha.2.2⟩, by rw [hl]; exact ha.2.2⟩
  unfold detI
  rw [if_pos ⟨hok, by rw [hl, hc]⟩, if_pos ⟨ha, sa⟩, if_pos ⟨hb, sb⟩, ml_ival hk, ph_ival hk, ph_ival hk, hl, ← hab, ← Po.det_mul (fld hk)]
  congr 1
  refine Po.det_congr _ fun i hi j hj => ?_
  rw [mf_row (by rw [hl]; exact hi)]
  simp only [hm, List.getElem_map, List.getElem_range]
  rw [getD_lt _ (by simp; omega)]
  simp only [List.getElem_map, List.getElem_range]
  rw [ph_ival hk, ← hab]
end Go.Proofs.Ytdcdaclkeocfpaa

namespace Go.Proofs.Ytdcdaclkeocfpaa.Po
variable {q : Nat} [NeZero q]

def zt (c : List Nat) (R : Nat → Nat → Fin q) (x : Nat → Fin q) (k : Nat) : Nat → Fin q := fun l => x l - sm (fun j => if j ∈ c then 0 else x j * kv c R j l) k
theorem zt_zero (c : List Nat) (R : Nat → Nat → Fin q) (x : Nat → Fin q) (l : Nat) : zt c R x 0 l = x l := by
  unfold zt; rw [show sm (fun j => if j ∈ c then 0 else x j * kv c R j l) 0 = 0 from rfl]; grind
theorem zt_piv {c : List Nat} (R : Nat → Nat → Fin q) (x : Nat → Fin q) {k : Nat} (h : k ∈ c) (l : Nat) : zt c R x (k + 1) l = zt c R x k l := by
  unfold zt
  rw [show sm (fun j => if j ∈ c then 0 else x j * kv c R j l) (k + 1) = sm (fun j => if j ∈ c then 0 else x j * kv c R j l) k + (if k ∈ c then 0 else x k * kv c R k l) from rfl, if_pos h]; grind
theorem zt_free {c : List Nat} (R : Nat → Nat → Fin q) (x : Nat → Fin q) {k : Nat} (h : k ∉ c) (l : Nat) : zt c R x (k + 1) l = zt c R x k l - x k * kv c R k l := by
  unfold zt
  rw [show sm (fun j => if j ∈ c then 0 else x j * kv c R j l) (k + 1) = sm (fun j => if j ∈ c then 0 else x j * kv c R j l) k + (if k ∈ c then 0 else x k * kv c R k l) from rfl, if_neg h]; grind
theorem zt_nil {c : List Nat} (R : Nat → Nat → Fin q) (x : Nat → Fin q) {n l : Nat} (hl : l < n) (h : l ∉ c) : zt c R x n l = 0 := by
  unfold zt
  rw [sm_single hl fun j _ hne => by
    by_cases e : j ∈ c
    · rw [if_pos e]
    · rw [if_neg e, kv_free R j h, if_neg (Ne.symm hne)]; grind, if_neg h, kv_free R l h, if_pos rfl]; grind
theorem ap_mulr (n : Nat) (M : Nat → Nat → Fin q) (a : Fin q) (x : Nat → Fin q) (i : Nat) : ap n M (fun l => a * x l) i = a * ap n M x i := by
  unfold ap
  rw [← sm_mul]; exact sm_congr fun l _ => by grind
theorem zt_ap {m n : Nat} {M R : Nat → Nat → Fin q} {c : List Nat} (h : Part m n R c) (hk : ∀ x, Ker m n M x ↔ Ker m n R x) (x : Nat → Fin q) {i : Nat} (hi : i < m) : ∀ k, k ≤ n → ap n M (zt c R x k) i = ap n M x i
  | 0, _ => ap_congr (fun _ _ => rfl) fun l _ => zt_zero c R x l
  | k + 1, hkn => by
    have ih := zt_ap h hk x hi k (by omega)
    by_cases e : k ∈ c
    · rw [← ih]; exact ap_congr (fun _ _ => rfl) fun l _ => zt_piv R x e l
    · rw [ap_congr (N := M) (y := fun l => zt c R x k l - x k * kv c R k l) (k := i) (fun _ _ => rfl) fun l _ => zt_free R x e l, ap_sub, ap_mulr, (hk _).2 (kv_ker h (by omega)) i hi]
      show ap n M (zt c R x k) i - _ = _
      rw [ih]; grind
end Go.Proofs.Ytdcdaclkeocfpaa.Po

namespace Go.Proofs.Ytdcdaclkeocfpaa
open Go.RowKit Go.BigFrame
open Classical

/-- The list x less the kernel's vectors for the free columns before k. -/
def zl (p : Int) (R : List (List Int)) (c : List Nat) (n : Nat) (x : List Int) : Nat → List Int
  | 0 => x
  | k + 1 => if c.contains k then zl p R c n x k else suK p (x.getD k 0) (zl p R c n x k) (kx p R c n k c.length) (zl p R c n x k).length
theorem zl_len (p : Int) (R : List (List Int)) (c : List Nat) (n : Nat) (x : List Int) : ∀ k, (zl p R c n x k).length = x.length
  | 0 => rfl
  | k + 1 => by
    rw [zl]
    split
    · exact zl_len p R c n x k
    · rw [suK_len]; exact zl_len p R c n x k
theorem ph_zl {p : Int} (hk : known p = true) {R : List (List Int)} {c : List Nat} {m n : Nat} (h : Po.Part m n (mf p R) c) {x : List Int} (hx : x.length = n) : ∀ k, k ≤ n → ∀ l, l < n → ph p ((zl p R c n x k).getD l 0) = Po.zt c (mf p R) (pf p x) k l
  | 0, _, l, _ => (Po.zt_zero c (mf p R) (pf p x) l).symm
  | k + 1, hkn, l, hl => by
    have ih := ph_zl hk h hx k (by omega) l hl
    rw [zl]
    by_cases e : k ∈ c
    · rw [if_pos (by simpa using e), Po.zt_piv _ _ e, ih]
    · rw [if_neg (by simpa using e), Po.zt_free _ _ e, ← ih]
      have h1 := congrFun (ph_suK hk (x.getD k 0) (R := zl p R c n x k) (S := kx p R c n k c.length) (by rw [kx_len, zl_len, hx])) l
      rw [h1, ← ph_kx_all hk h (by omega) e hl]; rfl
theorem sx_red {p : Int} {R : List (List Int)} {m n : Nat} (hp : 17 ≤ p) (h : Mt p m (n + 1) R) (c : List Nat) : ∀ i, Rdc p (sx R c n i)
  | 0 => fun y hy => by rw [(List.mem_replicate.1 hy).2]; omega
  | i + 1 => fun y hy => by
    rw [sx] at hy
    rcases List.mem_or_eq_of_mem_set hy with hy | rfl
    · exact sx_red hp h c i y hy
    · by_cases hi : i < R.length
      · rw [getD_row hi, getD_lt _ (by rw [h.row i hi]; omega)]
        exact h.red i hi _ (List.getElem_mem _)
      · rw [getD_out (by omega), getD_ge [] (by simp)]; omega
theorem pf_apL {p : Int} {M : List (List Int)} {x : List Int} (hok : OkM p M) (hx : x.length = cols M) {i : Nat} (hi : i < M.length) : pf p (apL p M x) i = Po.ap (cols M) (mf p M) (pf p x) i := by
  unfold apL
  rw [if_pos ⟨hok, hx⟩]
  show ph p (List.getD _ i 0) = _
  rw [getD_lt _ (by simpa using hi)]
  simp only [List.getElem_map, List.getElem_range]
  exact ph_ival hok.1 _
theorem apL_len {p : Int} {M : List (List Int)} {x : List Int} (hok : OkM p M) (hx : x.length = cols M) : (apL p M x).length = M.length := by
  unfold apL
  rw [if_pos ⟨hok, hx⟩]; simp
/-- x less the kernel's vectors for its free elements is what Solve returns for M x. -/
theorem solutions {p : Int} {M R : List (List Int)} {c : List Nat} {x X : List Int} {fb : Bool} (hok : OkM p M) (hx : x.length = cols M) (hr : Rrf p M (cols M) R c) (h : SolOf p M (apL p M x) fb X) :
    fb = true ∧ X.length = cols M ∧ ∀ l, l < cols M → (zl p R c (cols M) x (cols M)).getD l 0 % p = X.getD l 0 := by
  have hk := hok.1
  have hlen := apL_len hok hx
  cases fb with
  | false => exact absurd (fun i hi => (pf_apL hok hx hi).symm) (h.no hok hlen (pf p x))
  | true =>
    obtain ⟨-, -, hXl, hX⟩ := h.yes
    refine ⟨rfl, hXl, fun l hl => ?_⟩
    obtain ⟨S, d, he, h1 | h1⟩ := h.good hok hlen
    · obtain ⟨-, hn, rfl⟩ := h1
      have hm : 0 < M.length := by
        apply Classical.byContradiction
        intro h0
        have h2 : M = [] := List.length_eq_zero_iff.1 (by omega)
        rw [h2] at hl
        simp [cols] at hl
      obtain ⟨hp, hkw⟩ := he.wide hok.2 hm
      have hps := hp.shrink hn
      have hks := Po.wide_ker hkw
      obtain ⟨hcd, -⟩ := Po.part_unique (one_nz hk) hr.part hps fun y => (hr.ker y).symm.trans (hks y)
      have hmt : Mt p M.length (cols M + 1) S := by
        have h2 := he.mt
        rw [cols_wideL hok.2 hm, wideL_len] at h2; exact h2
      have h3 := Po.sol_unique hr.part hr.ker (b := pf p (apL p M x)) (x := Po.zt c (mf p R) (pf p x) (cols M)) (y := pf p (sx S d (cols M) d.length))
        (fun i hi => by rw [Po.zt_ap hr.part hr.ker _ hi _ (Nat.le_refl _), pf_apL hok hx hi]) hX
        (fun j hj hjc => Po.zt_nil _ _ hj hjc) (fun j hj hjc => by rw [ph_sx_all hk hp hj]; exact Po.sv_free _ _ (by rw [← hcd]; exact hjc)) l hl
      rw [← ph_zl hk hr.part hx _ (Nat.le_refl _) l hl] at h3
      have h4 : 0 ≤ (sx S d (cols M) d.length).getD l 0 ∧ (sx S d (cols M) d.length).getD l 0 < p := by
        rw [getD_lt _ (by rw [sx_len]; exact hl)]
        exact sx_red (known_lo hk) hmt d _ _ (List.getElem_mem _)
      have h5 := (ph_eq hk).1 h3
      rw [h5, Int.emod_eq_of_lt h4.1 h4.2]
    · exact absurd h1.1 (by decide)
end Go.Proofs.Ytdcdaclkeocfpaa
