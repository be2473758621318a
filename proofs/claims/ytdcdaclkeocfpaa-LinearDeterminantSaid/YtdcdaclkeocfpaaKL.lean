/- The inverse of a matrix: a left inverse is a right one and the only one; what a reduced form of (A | 1) says. -/
import Derived.Test.YtdcdaclkeocfpaaKK
namespace Go.Proofs.Ytdcdaclkeocfpaa.Po
variable {q : Nat} [NeZero q]

theorem mul_assoc (n : Nat) (A B C : Nat → Nat → Fin q) (i j : Nat) : mul n A (mul n B C) i j = mul n (mul n A B) C i j := by
  unfold mul
  have e1 : ∀ l, l < n → A i l * sm (fun k => B l k * C k j) n = sm (fun k => A i l * (B l k * C k j)) n := fun l _ => (sm_mul _ _ n).symm
  rw [sm_congr e1, sm_swap]
  refine sm_congr fun k _ => ?_
  have : sm (fun l => A i l * (B l k * C k j)) n = sm (fun l => C k j * (A i l * B l k)) n := sm_congr fun l _ => by grind
  rw [this, sm_mul]; grind
theorem mul_congr {n : Nat} {A A' B B' : Nat → Nat → Fin q} {i j : Nat} (hA : ∀ l, l < n → A i l = A' i l) (hB : ∀ l, l < n → B l j = B' l j) : mul n A B i j = mul n A' B' i j :=
  sm_congr fun l hl => by rw [hA l hl, hB l hl]
theorem mul_one_right {n : Nat} {R : Nat → Nat → Fin q} (h : ∀ i, i < n → ∀ j, j < n → R i j = one i j) (A : Nat → Nat → Fin q) (i : Nat) {j : Nat} (hj : j < n) : mul n A R i j = A i j := by
  unfold mul
  rw [sm_single hj fun l hl hne => by rw [h l hl j hj]; unfold one; rw [if_neg hne]; grind]
  rw [h j hj j hj]; unfold one; rw [if_pos rfl]; grind
/-- A matrix whose determinant is not 0 sends nothing else to 0. -/
theorem ker_full (hF : Fld q) (h1 : (1 : Fin q) ≠ 0) {n : Nat} {X : Nat → Nat → Fin q} (hd : det n X ≠ 0) {y : Nat → Fin q} (hy : Ker n n X y) : ∀ l, l < n → y l = 0 := by
  obtain ⟨R, c, ho, hp⟩ := exists_part hF n X n
  have hc := (det_reduced h1 ho hp).1 hd
  refine ker_free hp ((ho.ker n y).1 hy) fun l hl hlc => absurd ?_ hlc
  have h2 := full_pivots hp hc l (by omega)
  have h3 : c[l]'(by omega) ∈ c := List.getElem_mem _
  rw [h2] at h3; exact h3
theorem inv_det (hF : Fld q) (h1 : (1 : Fin q) ≠ 0) {n : Nat} {A X : Nat → Nat → Fin q} (h : ∀ i, i < n → ∀ j, j < n → mul n X A i j = one i j) : det n X ≠ 0 ∧ det n A ≠ 0 := by
  have h2 := det_mul hF n X A
  rw [det_congr n h, det_one] at h2
  exact ⟨fun e => h1 (by rw [h2, e]; grind), fun e => h1 (by rw [h2, e]; grind)⟩
/-- A left inverse is a right one. -/
theorem inv_right (hF : Fld q) (h1 : (1 : Fin q) ≠ 0) {n : Nat} {A X : Nat → Nat → Fin q} (h : ∀ i, i < n → ∀ j, j < n → mul n X A i j = one i j) : ∀ i, i < n → ∀ j, j < n → mul n A X i j = one i j := fun i hi j hj => by
  have hk : Ker n n X (fun l => mul n A X l j - one l j) := fun k hk => by
    rw [ap_sub]
    have e1 : ap n X (fun l => mul n A X l j) k = mul n X (mul n A X) k j := rfl
    have e2 : ap n X (fun l => one l j) k = mul n X one k j := rfl
    rw [e1, e2, mul_assoc, mul_one_right (fun _ _ _ _ => rfl) X k hj, mul_congr (A' := one) (B' := X) (fun l hl => h k hk l hl) (fun _ _ => rfl), mul_one_left (fun _ _ _ _ => rfl) X hk]; grind
  have h2 := ker_full hF h1 (inv_det hF h1 h).1 hk i hi
  have h3 : ∀ a b : Fin q, a - b = 0 → a = b := fun a b h => by grind
  exact h3 _ _ h2
theorem inv_unique (hF : Fld q) (h1 : (1 : Fin q) ≠ 0) {n : Nat} {A X Y : Nat → Nat → Fin q} (h : ∀ i, i < n → ∀ j, j < n → mul n X A i j = one i j) (k : ∀ i, i < n → ∀ j, j < n → mul n Y A i j = one i j) : ∀ i, i < n → ∀ j, j < n → X i j = Y i j := fun i hi j hj => by
  have hr := inv_right hF h1 k
  rw [← mul_one_right hr X i hj, mul_assoc, mul_congr (A' := one) (B' := Y) (fun l hl => h i hi l hl) (fun _ _ => rfl), mul_one_left (fun _ _ _ _ => rfl) Y hi]

/-- (A | B), n columns wide each. -/
def aug (n : Nat) (A B : Nat → Nat → Fin q) : Nat → Nat → Fin q := fun i j => if j < n then A i j else B i (j - n)
theorem ap_aug (n : Nat) (A B : Nat → Nat → Fin q) (z : Nat → Fin q) (i : Nat) : ap (n + n) (aug n A B) z i = ap n A z i + ap n B (fun k => z (n + k)) i := by
  unfold ap
  rw [sm_halves]
  congr 1
  · exact sm_congr fun j hj => by unfold aug; rw [if_pos hj]
  · exact sm_congr fun j _ => by unfold aug; rw [if_neg (by omega), Nat.add_sub_cancel_left]
/-- Where (A | 1) and (1 | B) send the same vectors to 0, B is the inverse of A. -/
theorem inv_aug {n : Nat} {A B E F : Nat → Nat → Fin q} (hE : ∀ i, i < n → ∀ j, j < n → E i j = one i j) (hF : ∀ i, i < n → ∀ j, j < n → F i j = one i j)
    (hk : ∀ z, Ker n (n + n) (aug n A E) z → Ker n (n + n) (aug n F B) z) : ∀ i, i < n → ∀ j, j < n → mul n B A i j = one i j := fun i hi j hj => by
  have hz : Ker n (n + n) (aug n A E) fun l => if l < n then one l j else 0 - A (l - n) j := fun k hk => by
    rw [ap_aug, ap_congr (N := A) (y := fun l => one l j) (k := k) (fun _ _ => rfl) (fun l hl => if_pos hl), ap_congr (N := E) (y := fun l => 0 - A l j) (k := k) (fun _ _ => rfl) (fun l hl => by rw [if_neg (by omega), Nat.add_sub_cancel_left])]
    have e1 : ap n A (fun l => one l j) k = mul n A one k j := rfl
    have e2 : ap n E (fun l => 0 - A l j) k = mul n E (fun l j => 0 - A l j) k j := rfl
    rw [e1, e2, mul_one_right (fun _ _ _ _ => rfl) A k hj, mul_one_left hE _ hk]; grind
  have h2 := hk _ hz i hi
  rw [ap_aug, ap_congr (N := F) (y := fun l => one l j) (k := i) (fun _ _ => rfl) (fun l hl => if_pos hl), ap_congr (N := B) (y := fun l => 0 - A l j) (k := i) (fun _ _ => rfl) (fun l hl => by rw [if_neg (by omega), Nat.add_sub_cancel_left])] at h2
  have e1 : ap n F (fun l => one l j) i = mul n F one i j := rfl
  have e2 : ap n B (fun l => 0 - A l j) i = 0 - mul n B A i j := by
    unfold ap mul
    have e3 : sm (fun l => B i l * (0 - A l j)) n = sm (fun l => (0 - 1) * (B i l * A l j)) n := sm_congr fun l _ => by grind
    rw [e3, sm_mul]; grind
  rw [e1, e2, mul_one_right (fun _ _ _ _ => rfl) F i hj, hF i hi j hj] at h2
  have h3 : ∀ a b : Fin q, a + (0 - b) = 0 → b = a := fun a b h => by grind
  exact h3 _ _ h2
end Go.Proofs.Ytdcdaclkeocfpaa.Po
