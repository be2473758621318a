/- Lists of numbers as polynomials modulo a known prime: normal forms, and what the field's functions do to the coefficients. -/
import Derived.Test.YtdcdaclkeocfpaaLawC
import Derived.Test.YtdcdaclkeocfpaaPolyM
namespace Go.Proofs.Ytdcdaclkeocfpaa

/-- The modulus as a natural number that is not 0. -/
def Q (p : Int) : Nat := (p - 1).toNat + 1
instance {p : Int} : NeZero (Q p) := ⟨by unfold Q; omega⟩
theorem q_eq {p : Int} (hk : known p = true) : (Q p : Int) = p := by have := known_lo hk; unfold Q; omega
/-- A number modulo p. -/
def ph (p n : Int) : Fin (Q p) := Fin.ofNat (Q p) (n % p).toNat

section
variable {p : Int} (hk : known p = true)
include hk
theorem ph_val (n : Int) : ((ph p n).val : Int) = n % p := by
  have h1 := known_lo hk
  have h2 := q_eq hk
  have h3 := Int.emod_nonneg n (show p ≠ 0 by omega)
  have h4 := Int.emod_lt_of_pos n (show 0 < p by omega)
  show (((n % p).toNat % Q p : Nat) : Int) = n % p
  rw [Nat.mod_eq_of_lt (by omega)]
  omega
theorem ph_ext {x : Fin (Q p)} {n : Int} (h : (x.val : Int) = n % p) : x = ph p n := by
  apply Fin.ext
  have := ph_val hk n
  omega
theorem ph_eq {a b : Int} : ph p a = ph p b ↔ a % p = b % p := by
  constructor
  · intro h
    rw [← ph_val hk, ← ph_val hk, h]
  · intro h
    exact ph_ext hk (by rw [ph_val hk, h])
theorem ph_emod (a : Int) : ph p (a % p) = ph p a := (ph_eq hk).2 (Int.emod_emod _ _)
theorem ph_add (a b : Int) : ph p a + ph p b = ph p (a + b) := by
  refine ph_ext hk ?_
  rw [Fin.val_add, Int.natCast_emod, Int.natCast_add, q_eq hk, ph_val hk, ph_val hk, ← Int.add_emod]
theorem ph_mul (a b : Int) : ph p a * ph p b = ph p (a * b) := by
  refine ph_ext hk ?_
  rw [Fin.val_mul, Int.natCast_emod, Int.natCast_mul, q_eq hk, ph_val hk, ph_val hk, ← Int.mul_emod]
theorem ph_zero : ph p 0 = 0 := by
  apply Fin.ext
  have := ph_val hk 0
  rw [Int.zero_emod] at this
  have h3 : ((0 : Fin (Q p)).val) = 0 % Q p := rfl
  rw [h3, Nat.zero_mod]
  omega
theorem ph_one : ph p 1 = 1 := by
  have h1 := known_lo hk
  have h2 := q_eq hk
  apply Fin.ext
  have := ph_val hk 1
  rw [Int.emod_eq_of_lt (by omega) (by omega)] at this
  have h3 : ((1 : Fin (Q p)).val) = 1 % Q p := rfl
  rw [h3, Nat.mod_eq_of_lt (by omega)]
  omega
theorem ph_sub (a b : Int) : ph p a - ph p b = ph p (a - b) := by
  have h := ph_add hk (a - b) b
  rw [show a - b + b = a by omega] at h
  grind
theorem ph_eq_zero (a : Int) : ph p a = 0 ↔ a % p = 0 := by
  rw [← ph_zero hk, ph_eq hk, Int.zero_emod]
theorem ph_ad (a b : Int) : ph p (ad p a b) = ph p a + ph p b := by rw [ad, if_pos hk, ph_emod hk, ph_add hk]
theorem ph_sb (a b : Int) : ph p (sb p a b) = ph p a - ph p b := by rw [sb, if_pos hk, ph_emod hk, ph_sub hk]
theorem ph_ml (a b : Int) : ph p (ml p a b) = ph p a * ph p b := by rw [ml, if_pos hk, ph_emod hk, ph_mul hk]
theorem ph_rd (a : Int) : ph p (rd p a) = ph p a := by rw [rd, if_pos hk, ph_emod hk]
theorem ph_iv {b : Int} (h0 : 0 ≤ b) (hb : b % p ≠ 0) : ph p (iv p b) * ph p b = 1 := by
  have h := iv_mul hk h0 hb
  have hp := known_lo hk
  rw [ph_mul hk, ← ph_one hk, ph_eq hk, h, Int.emod_eq_of_lt (by omega) (by omega)]
theorem fld : Po.Fld (Q p) := fun a ha => by
  have hv : ph p (a.val : Int) = a := by
    symm; refine ph_ext hk ?_
    have := a.isLt
    have h2 := q_eq hk
    rw [Int.emod_eq_of_lt (by omega) (by omega)]
  refine ⟨ph p (iv p a.val), ?_⟩
  have hne : ((a.val : Int)) % p ≠ 0 := fun h => ha (by rw [← hv]; exact (ph_eq_zero hk _).2 h)
  have := ph_iv hk (b := (a.val : Int)) (by omega) hne
  rw [hv] at this
  grind
end

/-- The polynomial that a list of coefficients is. -/
def pf (p : Int) (l : List Int) : Nat → Fin (Q p) := fun i => ph p (l.getD i 0)
/-- The normal form: the coefficients are reduced, the last one is not 0. -/
def NF (p : Int) (l : List Int) : Prop := (∀ x ∈ l, 0 ≤ x ∧ x < p) ∧ ∀ h : l ≠ [], l.getLast h ≠ 0
/-- r is the normal form of the polynomial f; where p is not known, r is empty. -/
def Is (p : Int) (r : List Int) (f : Nat → Fin (Q p)) : Prop := if known p then NF p r ∧ pf p r = f else r = []

theorem getD_lt (l : List Int) {i : Nat} (h : i < l.length) : l.getD i 0 = l[i] := by simp [List.getD, h]
theorem getD_ge (l : List Int) {i : Nat} (h : l.length ≤ i) : l.getD i 0 = 0 := by simp [List.getD, List.getElem?_eq_none h]
theorem nf_nil (p : Int) : NF p [] := ⟨(fun x h => by cases h), fun h => absurd rfl h⟩
section
variable {p : Int} (hk : known p = true)
include hk
theorem pf_deg (l : List Int) : Po.Deg (pf p l) l.length := fun i hi => by
  show ph p (l.getD i 0) = 0
  rw [getD_ge _ hi, ph_zero hk]
theorem nf_top {l : List Int} (h : NF p l) (hl : l ≠ []) : pf p l (l.length - 1) ≠ 0 := by
  have h1 : 0 < l.length := List.length_pos_iff.2 hl
  have e : l.getD (l.length - 1) 0 = l.getLast hl := by
    rw [getD_lt _ (by omega), List.getLast_eq_getElem]
  intro h0
  have h2 : ph p (l.getD (l.length - 1) 0) = 0 := h0
  rw [ph_eq_zero hk, e] at h2
  have h3 := h.1 _ (List.getLast_mem hl)
  rw [Int.emod_eq_of_lt h3.1 h3.2] at h2
  exact h.2 hl h2
theorem nf_len {l : List Int} (h : NF p l) {n : Nat} (hd : Po.Deg (pf p l) n) : l.length ≤ n := by
  by_cases hl : l = []
  · subst hl; simp
  · refine Nat.le_of_not_lt fun hlt => nf_top hk h hl (hd _ (by omega))
/-- A normal form is determined by its polynomial. -/
theorem nf_unique {l m : List Int} (hl : NF p l) (hm : NF p m) (e : pf p l = pf p m) : l = m := by
  have h1 : l.length = m.length := by
    have a := nf_len hk hl (n := m.length) (by rw [e]; exact pf_deg hk m)
    have b := nf_len hk hm (n := l.length) (by rw [← e]; exact pf_deg hk l)
    omega
  refine List.ext_getElem h1 fun i hi hj => ?_
  have h2 : ph p (l.getD i 0) = ph p (m.getD i 0) := congrFun e i
  rw [ph_eq hk, getD_lt _ hi, getD_lt _ hj] at h2
  have h3 := hl.1 _ (List.getElem_mem hi)
  have h4 := hm.1 _ (List.getElem_mem hj)
  rwa [Int.emod_eq_of_lt h3.1 h3.2, Int.emod_eq_of_lt h4.1 h4.2] at h2
end
theorem Is.same {p : Int} {r s : List Int} {f g : Nat → Fin (Q p)} (h : Is p r f) (k : Is p s g) (e : known p = true → f = g) : r = s := by
  unfold Is at h k
  split at h
  · rename_i hk
    rw [if_pos hk] at k
    exact nf_unique hk h.1 k.1 (by rw [h.2, k.2]; exact e hk)
  · rename_i hk
    rw [if_neg hk] at k
    rw [h, k]
theorem Is.len {p : Int} {r : List Int} {f : Nat → Fin (Q p)} (h : Is p r f) {n : Nat} (hd : Po.Deg f n) : r.length ≤ n := by
  unfold Is at h
  split at h
  · rename_i hk; exact nf_len hk h.1 (by rw [h.2]; exact hd)
  · rw [h]; simp

/-! The normal form of a list. -/
/-- Without the zeros at its end. -/
def cut0 (l : List Int) : List Int := (l.reverse.dropWhile (· == 0)).reverse
theorem cut0_snoc_zero (l : List Int) : cut0 (l ++ [0]) = cut0 l := by simp [cut0]
theorem cut0_snoc (l : List Int) {x : Int} (h : x ≠ 0) : cut0 (l ++ [x]) = l ++ [x] := by simp [cut0, h]
theorem cut0_nil : cut0 [] = [] := rfl
theorem snoc_induct {P : List Int → Prop} (h0 : P []) (h1 : ∀ m x, P m → P (m ++ [x])) (l : List Int) : P l := by
  have : ∀ r : List Int, P r.reverse := fun r => by
    induction r with
    | nil => exact h0
    | cons x r ih => rw [List.reverse_cons]; exact h1 _ _ ih
  have h := this l.reverse
  rwa [List.reverse_reverse] at h
theorem cut0_last (l : List Int) : ∀ h : cut0 l ≠ [], (cut0 l).getLast h ≠ 0 := by
  refine snoc_induct (P := fun l => ∀ h : cut0 l ≠ [], (cut0 l).getLast h ≠ 0) ?_ ?_ l
  · intro h; exact absurd rfl h
  · intro m x ih h
    by_cases hx : x = 0
    · subst hx
      have e : cut0 (m ++ [0]) = cut0 m := cut0_snoc_zero m
      have h' : cut0 m ≠ [] := by rw [← e]; exact h
      have := ih h'
      simpa [e] using this
    · simp [cut0_snoc m hx, hx]
theorem cut0_getD (l : List Int) (i : Nat) : (cut0 l).getD i 0 = l.getD i 0 := by
  refine snoc_induct (P := fun l => (cut0 l).getD i 0 = l.getD i 0) rfl ?_ l
  intro m x ih
  by_cases hx : x = 0
  · subst hx
    rw [cut0_snoc_zero, ih]
    rcases Nat.lt_or_ge i m.length with h | h
    · rw [getD_lt _ h, getD_lt _ (by simp; omega), List.getElem_append_left h]
    · rw [getD_ge _ h]
      rcases Nat.lt_or_eq_of_le h with h2 | h2
      · rw [getD_ge _ (by simp; omega)]
      · subst h2; rw [getD_lt _ (by simp)]; simp
  · rw [cut0_snoc m hx]
theorem cut0_mem {l : List Int} {x : Int} (h : x ∈ cut0 l) : x ∈ l := by
  unfold cut0 at h
  have h1 := List.mem_reverse.1 h
  exact List.mem_reverse.1 ((List.dropWhile_sublist _).subset h1)
theorem is_cut {p : Int} (hk : known p = true) {l : List Int} (h : ∀ x ∈ l, 0 ≤ x ∧ x < p) : Is p (cut0 l) (pf p l) := by
  unfold Is
  rw [if_pos hk]
  exact ⟨⟨fun x hx => h x (cut0_mem hx), cut0_last l⟩, funext fun i => by show ph p _ = ph p _; rw [cut0_getD]⟩
theorem is_unknown {p : Int} (hk : known p = false) (f : Nat → Fin (Q p)) : Is p [] f := by
  unfold Is; rw [hk]; rfl
end Go.Proofs.Ytdcdaclkeocfpaa
