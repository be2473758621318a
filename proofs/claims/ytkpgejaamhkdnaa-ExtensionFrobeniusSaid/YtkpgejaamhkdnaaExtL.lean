/- The functions of the chapter on the extension over whole numbers, and the laws that its statements name. -/
import Derived.Test.YtkpgejaamhkdnaaExtK
namespace Go.Proofs.Ytkpgejaamhkdnaa.Ext

def eadd (p : Int) (a b : E) : E := (ad p a.1 b.1, ad p a.2 b.2)
def esub (p : Int) (a b : E) : E := (sb p a.1 b.1, sb p a.2 b.2)
def emul (p : Int) (a b : E) : E := (ad p (ml p a.1 b.1) (ml p (gen p) (ml p a.2 b.2)), ad p (ml p a.1 b.2) (ml p a.2 b.1))
def ecj (p : Int) (a : E) : E := (rd p a.1, sb p 0 a.2)
def enm (p : Int) (a : E) : Int := (emul p a (ecj p a)).1
def esc (p : Int) (a : E) (n : Int) : E := (ml p a.1 n, ml p a.2 n)
def einv (p : Int) (a : E) : E := esc p (ecj p a) (iv p (enm p a))
def ered (p : Int) (a : E) : E := (rd p a.1, rd p a.2)
def epw (p : Int) (a : E) (n : Nat) : E := ered p (pE (gen p) a n)

/-! An unknown prime: all is zero. -/
theorem unknown_all {p : Int} (h : known p = false) (a b : E) (n : Int) (m : Nat) :
    eadd p a b = (0, 0) ∧ esub p a b = (0, 0) ∧ emul p a b = (0, 0) ∧ ecj p a = (0, 0) ∧ enm p a = 0 ∧ esc p a n = (0, 0) ∧ einv p a = (0, 0) ∧ epw p a m = (0, 0) := by
  simp [eadd, esub, emul, ecj, enm, esc, einv, epw, ered, ad, sb, ml, rd, h]

/-! A known prime. -/
def Rd (p : Int) (a : E) : Prop := (0 ≤ a.1 ∧ a.1 < p) ∧ (0 ≤ a.2 ∧ a.2 < p)
theorem eq_of_cE {p : Int} {a b : E} (ha : Rd p a) (hb : Rd p b) (h : cE p a b) : a = b := by
  have h1 := h.1.emod
  have h2 := h.2.emod
  rw [Int.emod_eq_of_lt ha.1.1 ha.1.2, Int.emod_eq_of_lt hb.1.1 hb.1.2] at h1
  rw [Int.emod_eq_of_lt ha.2.1 ha.2.2, Int.emod_eq_of_lt hb.2.1 hb.2.2] at h2
  exact Prod.ext h1 h2
section
variable {p : Int} (hk : known p = true)
include hk
theorem red_bd (n : Int) : 0 ≤ n % p ∧ n % p < p := by
  have := known_lo hk
  exact ⟨Int.emod_nonneg _ (by omega), Int.emod_lt_of_pos _ (by omega)⟩
theorem ad_al (a b : Int) : Al p (ad p a b) (a + b) := by rw [ad, if_pos hk]; exact Al.self _ _
theorem sb_al (a b : Int) : Al p (sb p a b) (a - b) := by rw [sb, if_pos hk]; exact Al.self _ _
theorem ml_al (a b : Int) : Al p (ml p a b) (a * b) := by rw [ml, if_pos hk]; exact Al.self _ _
theorem rd_al (a : Int) : Al p (rd p a) a := by rw [rd, if_pos hk]; exact Al.self _ _
theorem eadd_al (a b : E) : cE p (eadd p a b) (aE a b) := ⟨ad_al hk _ _, ad_al hk _ _⟩
theorem esub_al (a b : E) : cE p (esub p a b) (a.1 - b.1, a.2 - b.2) := ⟨sb_al hk _ _, sb_al hk _ _⟩
theorem emul_al (a b : E) : cE p (emul p a b) (mE (gen p) a b) :=
  ⟨(ad_al hk _ _).trans ((ml_al hk _ _).add ((ml_al hk _ _).trans ((Al.refl _ _).mul (ml_al hk _ _)))), (ad_al hk _ _).trans ((ml_al hk _ _).add (ml_al hk _ _))⟩
theorem ecj_al (a : E) : cE p (ecj p a) (cj a) := ⟨rd_al hk _, by have h := sb_al hk 0 a.2; rw [Int.zero_sub] at h; exact h⟩
theorem enm_al (a : E) : Al p (enm p a) (nE (gen p) a) := by
  have h := ((emul_al hk a (ecj p a)).trans ((cE.refl p a).mul (ecj_al hk a))).1
  rw [mE_cj] at h; exact h
theorem esc_al (a : E) (n : Int) : cE p (esc p a n) (sE n a) :=
  ⟨by have h := ml_al hk a.1 n; rw [Int.mul_comm a.1 n] at h; exact h, by have h := ml_al hk a.2 n; rw [Int.mul_comm a.2 n] at h; exact h⟩
theorem ered_al (a : E) : cE p (ered p a) a := ⟨rd_al hk _, rd_al hk _⟩
theorem eadd_rd (a b : E) : Rd p (eadd p a b) := by
  simp only [Rd, eadd, ad, if_pos hk]; exact ⟨red_bd hk _, red_bd hk _⟩
theorem esub_rd (a b : E) : Rd p (esub p a b) := by
  simp only [Rd, esub, sb, if_pos hk]; exact ⟨red_bd hk _, red_bd hk _⟩
theorem emul_rd (a b : E) : Rd p (emul p a b) := by
  simp only [Rd, emul, ad, if_pos hk]; exact ⟨red_bd hk _, red_bd hk _⟩
theorem ecj_rd (a : E) : Rd p (ecj p a) := by
  simp only [Rd, ecj, rd, sb, if_pos hk]; exact ⟨red_bd hk _, red_bd hk _⟩
theorem esc_rd (a : E) (n : Int) : Rd p (esc p a n) := by
  simp only [Rd, esc, ml, if_pos hk]; exact ⟨red_bd hk _, red_bd hk _⟩
theorem ered_rd (a : E) : Rd p (ered p a) := by
  simp only [Rd, ered, rd, if_pos hk]; exact ⟨red_bd hk _, red_bd hk _⟩

theorem field_add (a b c : E) : eadd p (eadd p a b) c = eadd p a (eadd p b c) := by
  refine eq_of_cE (eadd_rd hk _ _) (eadd_rd hk _ _) (((eadd_al hk _ _).trans ((eadd_al hk _ _).add (cE.refl _ _))).trans ?_)
  rw [aE_assoc]
  exact (((cE.refl _ _).add (eadd_al hk _ _)).symm).trans (eadd_al hk _ _).symm
theorem field_mul (a b c : E) : emul p (emul p a b) c = emul p a (emul p b c) := by
  refine eq_of_cE (emul_rd hk _ _) (emul_rd hk _ _) (((emul_al hk _ _).trans ((emul_al hk _ _).mul (cE.refl _ _))).trans ?_)
  rw [mE_assoc]
  exact (((cE.refl _ _).mul (emul_al hk _ _)).symm).trans (emul_al hk _ _).symm
theorem field_mulc (a b : E) : emul p a b = emul p b a := by
  refine eq_of_cE (emul_rd hk _ _) (emul_rd hk _ _) ((emul_al hk _ _).trans ?_)
  rw [mE_comm]
  exact (emul_al hk _ _).symm
theorem field_dist (a b c : E) : emul p a (eadd p b c) = eadd p (emul p a b) (emul p a c) := by
  refine eq_of_cE (emul_rd hk _ _) (eadd_rd hk _ _) (((emul_al hk _ _).trans ((cE.refl _ _).mul (eadd_al hk _ _))).trans ?_)
  rw [mE_add]
  exact (((emul_al hk _ _).add (emul_al hk _ _)).symm).trans (eadd_al hk _ _).symm
theorem field_sub (a b : E) : esub p (eadd p a b) b = eadd p a (0, 0) := by
  refine eq_of_cE (esub_rd hk _ _) (eadd_rd hk _ _) ((esub_al hk _ _).trans ?_)
  have h : cE p ((eadd p a b).1 - b.1, (eadd p a b).2 - b.2) ((aE a b).1 - b.1, (aE a b).2 - b.2) := ⟨(eadd_al hk a b).1.sub (Al.refl _ b.1), (eadd_al hk a b).2.sub (Al.refl _ b.2)⟩
  refine h.trans (cE.trans ?_ (eadd_al hk _ _).symm)
  exact ⟨⟨0, by simp only [aE]; grind⟩, ⟨0, by simp only [aE]; grind⟩⟩

theorem norm_mul (a b : E) : enm p (emul p a b) = ml p (enm p a) (enm p b) := by
  have h1 : Al p (enm p (emul p a b)) (ml p (enm p a) (enm p b)) := by
    refine ((enm_al hk _).trans ?_).trans (ml_al hk _ _).symm
    refine Al.trans ?_ ((enm_al hk a).mul (enm_al hk b)).symm
    rw [← nE_mul]
    have h := emul_al hk a b
    exact (h.1.mul h.1).sub ((Al.refl _ _).mul (h.2.mul h.2))
  have h2 := h1.emod
  have h3 := emul_rd hk (emul p a b) (ecj p (emul p a b))
  have h4 : 0 ≤ ml p (enm p a) (enm p b) ∧ ml p (enm p a) (enm p b) < p := by rw [ml, if_pos hk]; exact red_bd hk _
  have h5 : enm p (emul p a b) % p = enm p (emul p a b) := Int.emod_eq_of_lt h3.1.1 h3.1.2
  rwa [h5, Int.emod_eq_of_lt h4.1 h4.2] at h2
theorem norm_cj (a : E) : emul p a (ecj p a) = (enm p a, 0) := by
  refine eq_of_cE (emul_rd hk _ _) ⟨(emul_rd hk a (ecj p a)).1, by simp; have := known_lo hk; omega⟩ ?_
  have h := (emul_al hk a (ecj p a)).trans ((cE.refl p a).mul (ecj_al hk a))
  rw [mE_cj] at h
  exact ⟨Al.refl _ _, h.2⟩
omit hk in
theorem zero_iff {p : Int} (x : Int) : Al p x 0 ↔ x % p = 0 := by
  constructor
  · intro h; have := h.emod; rwa [Int.zero_emod] at this
  · intro h; exact Al.of_emod (by rw [h, Int.zero_emod])
theorem norm_zero (a : E) : (enm p a = 0) ↔ (a.1 % p = 0 ∧ a.2 % p = 0) := by
  obtain ⟨q, hq, hg⟩ := good_known hk
  have h3 := emul_rd hk a (ecj p a)
  constructor
  · intro h
    have h1 : Al p (nE (gen p) a) 0 := by
      have := (enm_al hk a).symm
      rwa [h] at this
    rw [hq] at h1 hg
    have h2 := hg.norm h1
    rw [← hq] at h2
    exact ⟨(zero_iff _).1 h2.1, (zero_iff _).1 h2.2⟩
  · rintro ⟨h1, h2⟩
    have h1 := (zero_iff _).2 h1
    have h2 := (zero_iff _).2 h2
    have h4 : Al p (nE (gen p) a) 0 := by
      have := (h1.mul h1).sub ((Al.refl p (gen p)).mul (h2.mul h2))
      simpa [nE] using this
    have h5 := ((enm_al hk a).trans h4).emod
    rw [Int.zero_emod] at h5
    have h6 : enm p a % p = enm p a := Int.emod_eq_of_lt h3.1.1 h3.1.2
    rwa [h6] at h5
theorem inv_mul (a : E) (h : ¬ (a.1 % p = 0 ∧ a.2 % p = 0)) : emul p a (einv p a) = (1, 0) := by
  have hp := known_lo hk
  have hn : enm p a ≠ 0 := fun h0 => h ((norm_zero hk a).1 h0)
  have h3 := (emul_rd hk a (ecj p a)).1
  have h0 : 0 ≤ enm p a := h3.1
  have h6 : enm p a % p = enm p a := Int.emod_eq_of_lt h3.1 h3.2
  have hne : enm p a % p ≠ 0 := by rw [h6]; exact hn
  have hi := iv_mul hk h0 hne
  refine eq_of_cE (emul_rd hk _ _) ⟨⟨by simp, by simp; omega⟩, ⟨by simp, by simp; omega⟩⟩ ?_
  have h1 := (emul_al hk a (einv p a)).trans ((cE.refl p a).mul (esc_al hk (ecj p a) (iv p (enm p a))))
  rw [mE_comm, mE_scale, mE_comm] at h1
  refine h1.trans (((cE.scale (Al.refl _ _) ((cE.refl p a).mul (ecj_al hk a)))).trans ?_)
  rw [mE_cj]
  refine ⟨?_, by simpa [sE] using Al.refl p 0⟩
  have h2 := ((Al.refl p (iv p (enm p a))).mul (enm_al hk a).symm)
  refine h2.trans (Al.of_emod ?_)
  rw [hi]; exact (Int.emod_eq_of_lt (by omega) (by omega)).symm
theorem inv_zero (a : E) (h : a.1 % p = 0 ∧ a.2 % p = 0) : einv p a = (0, 0) := by
  have hn := (norm_zero hk a).2 h
  rw [einv, hn, iv_zero hk (by simp)]
  simp [esc, ml]
theorem inv_inv (a : E) (h : ¬ (a.1 % p = 0 ∧ a.2 % p = 0)) : einv p (einv p a) = ered p a := by
  have hp := known_lo hk
  have h1 := inv_mul hk a h
  have hb : ¬ ((einv p a).1 % p = 0 ∧ (einv p a).2 % p = 0) := by
    rintro ⟨h2, h3⟩
    have h4 : cE p (einv p a) (0, 0) := ⟨(zero_iff _).2 h2, (zero_iff _).2 h3⟩
    have h5 := (emul_al hk a (einv p a)).trans ((cE.refl p a).mul h4)
    rw [h1] at h5
    have h6 := h5.1.emod
    simp [mE] at h6
    rw [Int.emod_eq_of_lt (by omega) (by omega)] at h6
    omega
  have h2 := inv_mul hk (einv p a) hb
  -- a = a (b b') = (a b) b' = b'
  refine eq_of_cE (esc_rd hk _ _) (ered_rd hk _) ?_
  have e := field_mul hk a (einv p a) (einv p (einv p a))
  rw [h1, h2] at e
  have h7 := emul_al hk (1, 0) (einv p (einv p a))
  rw [e, mE_comm, mE_one] at h7
  have h8 := emul_al hk a (1, 0)
  rw [mE_one] at h8
  exact (h7.symm.trans h8).trans (ered_al hk a).symm
theorem pow_sum (a : E) (m n : Nat) : epw p a (m + n) = emul p (epw p a m) (epw p a n) := by
  refine eq_of_cE (ered_rd hk _) (emul_rd hk _ _) ((ered_al hk _).trans ?_)
  rw [pE_add]
  exact ((ered_al hk _).mul (ered_al hk _)).symm.trans (emul_al hk _ _).symm
theorem pow_frobenius (a : E) : epw p a p.toNat = ecj p a := by
  obtain ⟨q, hq, hg⟩ := good_known hk
  refine eq_of_cE (ered_rd hk _) (ecj_rd hk _) ((ered_al hk _).trans ?_)
  refine cE.trans ?_ (ecj_al hk a).symm
  have h := hg.frobenius a
  rw [← hq] at h
  have e : q = p.toNat := by omega
  rwa [e] at h
theorem cj_same (a : E) : (ecj p a = ered p a) ↔ a.2 % p = 0 := by
  have hp := known_lo hk
  obtain ⟨q, hq, hg⟩ := good_known hk
  constructor
  · intro h
    have h1 := ((ecj_al hk a).symm.trans (by rw [h]; exact ered_al hk a)).2
    obtain ⟨k, h2⟩ := h1
    simp only [cj] at h2
    have ho := hg.odd
    refine (zero_iff _).1 ?_
    have h4 : p = 2 * (p / 2) + 1 := by omega
    have h5 : p * k = -2 * a.2 := by omega
    have h6 : k % 2 = 0 := by
      rcases Int.emod_two_eq k with h | h
      · exact h
      · exfalso
        have : (p * k) % 2 = 1 := by rw [Int.mul_emod, h]; omega
        omega
    have h7 : k = 2 * (k / 2) := by omega
    have h9 : p * (2 * (k / 2)) = -2 * a.2 := by rw [← h7]; exact h5
    have h10 : p * (2 * (k / 2)) = 2 * (p * (k / 2)) := by grind
    have h11 : p * (k / 2) = - a.2 := by omega
    exact ⟨-(k / 2), by grind⟩
  · intro h
    have h1 := (zero_iff _).2 h
    refine eq_of_cE (ecj_rd hk _) (ered_rd hk _) ((ecj_al hk a).trans (cE.trans ?_ (ered_al hk a).symm))
    refine ⟨Al.refl _ _, ?_⟩
    have h2 := h1.neg
    rw [Int.neg_zero] at h2
    exact h2.trans h1.symm
theorem pow_next (a : E) (m : Nat) : emul p (epw p a m) a = epw p a (m + 1) := by
  refine eq_of_cE (emul_rd hk _ _) (ered_rd hk _) ((emul_al hk _ _).trans ?_)
  exact ((ered_al hk _).mul (cE.refl _ a)).trans (ered_al hk _).symm
theorem pow_zero (a : E) : epw p a 0 = (1, 0) := by
  have hp := known_lo hk
  refine eq_of_cE (ered_rd hk _) ⟨⟨by simp, by simp; omega⟩, ⟨by simp, by simp; omega⟩⟩ (ered_al hk _)
theorem mul_red (a b : E) : emul p (ered p a) b = emul p a b :=
  eq_of_cE (emul_rd hk _ _) (emul_rd hk _ _) (((emul_al hk _ _).trans ((ered_al hk a).mul (cE.refl _ b))).trans (emul_al hk a b).symm)
end
end Go.Proofs.Ytkpgejaamhkdnaa.Ext
