/- The root of a length is primitive; what the coefficients of Interpolate are. What walks of a fast transform want: shifts, inverse roots, folds, products by values, the least power of two. -/
import Derived.Test.YtnmbggdfcgbniaaTA
import Derived.Test.YtnmbggdfcgbniaaFft
namespace Go.Proofs.Ytnmbggdfcgbniaa
open Go.RowKit
open Classical

theorem pf_el {p : Int} (l : List Int) {i : Nat} (h : i < l.length) : pf p l i = ph p l[i] := by show ph p _ = _; rw [getD_lt _ h]
theorem ival_range {p : Int} (hk : known p = true) (z : Fin (Q p)) : 0 ≤ ival p z ∧ ival p z < p := by
  unfold ival
  rw [if_pos hk]
  have := z.isLt
  have := q_eq hk
  omega
theorem ph_pow {p : Int} (hk : known p = true) (x : Int) (m : Nat) : ph p (x ^ m) = Po.pwF (ph p x) m := by
  induction m with
  | zero => rw [Int.pow_zero, ph_one hk]; rfl
  | succ m ih => rw [Int.pow_succ, ← ph_mul hk, ih]; rfl
theorem ph_pw {p : Int} (hk : known p = true) (x e : Int) : ph p (pw p x e) = Po.pwF (ph p x) e.toNat := by
  rw [pw, if_pos hk, ph_emod hk, ph_pow hk]
theorem minus_ne {p : Int} (hk : known p = true) : (0 - 1 : Fin (Q p)) ≠ 1 := by
  rw [← ph_zero hk, ← ph_one hk, ph_sub hk]
  intro h
  rw [ph_eq hk] at h
  have := known_lo hk
  have h1 : (0 - 1 : Int) % p = p - 1 := by
    rw [show (0 - 1 : Int) = (p - 1) + p * (-1) by omega, Int.add_mul_emod_self_left]
    exact Int.emod_eq_of_lt (by omega) (by omega)
  rw [h1, Int.emod_eq_of_lt (by omega) (by omega)] at h
  omega
theorem len_prim {p n : Int} (h : LenOk p n) : Po.Prim (ph p (rtw p n)) n.toNat := by
  have hk := h.1.1
  have hpl := known_lo hk
  by_cases h1 : n = 1
  · subst h1
    have e : rtw p 1 = 1 := root_one hk
    rw [e, ph_one hk]
    exact ⟨Po.pwF_one _, fun d h0 hd => by have : (1 : Int).toNat = 1 := rfl; omega⟩
  · have hn := h.1.2.1
    obtain ⟨k, hkn⟩ := h.1.2.2.1
    cases k with
    | zero => simp at hkn; omega
    | succ k =>
      have hh := root_half h.1 (by omega)
      have hc := ph_pw hk (rtw p n) (n / 2)
      have hpw : pw p (rtw p n) (n / 2) = p - 1 := hh
      rw [hpw] at hc
      have e1 : (n / 2).toNat = 2 ^ k := by rw [hkn, Nat.pow_succ]; omega
      have e2 : ph p (p - 1) = 0 - 1 := by
        rw [← ph_sub hk, ph_one hk]
        have : ph p p = 0 := (ph_eq_zero hk p).2 (Int.emod_self)
        rw [this]
      rw [e1, e2] at hc
      have := Po.prim_two (minus_ne hk) k (ph p (rtw p n)) hc.symm
      rw [show n.toNat = 2 ^ (k + 1) by rw [hkn]; exact Int.toNat_natCast _]
      exact this
theorem sm_ones {p : Int} (hk : known p = true) : ∀ n : Nat, Po.sm (fun _ => (1 : Fin (Q p))) n = ph p n
  | 0 => (ph_zero hk).symm
  | n + 1 => by
    rw [Po.sm, sm_ones hk n, ← ph_one hk, ph_add hk]
    rfl
theorem len_lt {p n : Int} (h : LenOk p n) : 0 < n ∧ n < p := by
  have hpl := known_lo h.1.1
  have h1 := h.1.2.1
  have h3 := h.1.2.2.2
  have := Int.le_of_dvd (show 0 < p - 1 by omega) (Int.dvd_of_emod_eq_zero h3)
  omega
theorem inv_len {p n : Int} (h : LenOk p n) : ph p (iv p n) * Po.sm (fun _ => 1) n.toNat = 1 := by
  have h1 := len_lt h
  rw [sm_ones h.1.1, Int.toNat_of_nonneg (by omega)]
  exact ph_iv h.1.1 (by omega) (by rw [Int.emod_eq_of_lt (by omega) (by omega)]; omega)
theorem inv_shift {p s : Int} (hk : known p = true) (hs : s % p ≠ 0) : ph p s * ph p (iv p (s % p)) = 1 := by
  have hpl := known_lo hk
  have h1 := ph_iv hk (b := s % p) (Int.emod_nonneg _ (by omega)) (by rwa [Int.emod_emod])
  rw [ph_emod hk] at h1
  rw [← h1]; grind
theorem shift_ne {p s : Int} (hk : known p = true) (hs : s % p ≠ 0) : ph p s ≠ 0 := fun h => hs ((ph_eq_zero hk s).1 h)

theorem ival_inj {p : Int} (hk : known p = true) {x y : Fin (Q p)} (h : ival p x = ival p y) : x = y := by rw [← ph_ival hk x, ← ph_ival hk y, h]
theorem ev_first {p : Int} {f g : Nat → Fin (Q p)} (x : Fin (Q p)) {n : Nat} (h : ∀ i, i < n → f i = g i) : Po.ev f x n = Po.ev g x n := by
  rw [Po.ev_sm, Po.ev_sm]; exact Po.sm_congr fun i hi => by rw [h i hi]
theorem intL_len (p s : Int) (v : List Int) : (intL p s v).length = v.length := by simp [intL]
/-- The coefficients have the values. -/
theorem intL_ev {p s : Int} {v : List Int} (h : errD p s v.length = 0) {k : Nat} (hkv : k < v.length) : Po.ev (pf p (intL p s v)) (dpt p s v.length k) v.length = ph p v[k] := by
  obtain ⟨hl, hs⟩ := errD_zero.1 h
  have hk := hl.1.1
  have hn : ((v.length : Int)).toNat = v.length := Int.toNat_natCast _
  have hprim := len_prim hl
  have hni := inv_len hl
  rw [hn] at hprim hni
  have hmain := Po.inverse (fld hk) hprim (inv_shift hk hs) hni (pf p v) hkv
  rw [show pf p v k = ph p v[k] from pf_el v hkv] at hmain
  rw [← hmain]
  refine ev_first _ fun i hi => ?_
  rw [pf_el (intL p s v) (by rw [intL_len]; exact hi)]
  have e : (intL p s v)[i]'(by rw [intL_len]; exact hi) = ival p (tval p v ((v.length - i) % v.length) * tfac p s v.length i) := by simp [intL]
  rw [e, ph_ival hk]
  rfl
theorem intL_red {p s : Int} {v : List Int} (hk : known p = true) : ∀ y ∈ intL p s v, 0 ≤ y ∧ y < p := fun y hy => by
  simp only [intL, List.mem_map] at hy
  obtain ⟨i, _, rfl⟩ := hy
  exact ival_range hk _
/-- Two lists of reduced elements with the same values are equal. -/
theorem same_values {p s : Int} {n : Nat} (h : errD p s n = 0) {l m : List Int} (hl : l.length = n) (hm : m.length = n) (hlr : ∀ y ∈ l, 0 ≤ y ∧ y < p) (hmr : ∀ y ∈ m, 0 ≤ y ∧ y < p)
    (e : ∀ k, k < n → Po.ev (pf p l) (dpt p s n k) n = Po.ev (pf p m) (dpt p s n k) n) : l = m := by
  obtain ⟨hlen, hs⟩ := errD_zero.1 h
  have hk := hlen.1.1
  have hprim := len_prim hlen
  rw [show ((n : Int)).toNat = n from Int.toNat_natCast _] at hprim
  have hf := Po.dom_unique (fld hk) hprim (shift_ne hk hs) (by have := pf_deg hk l; rwa [hl] at this) (by have := pf_deg hk m; rwa [hm] at this) e
  refine List.ext_getElem (by omega) fun i h1 h2 => ?_
  have h3 := congrFun hf i
  rw [pf_el l h1, pf_el m h2, ph_eq hk] at h3
  have h4 := hlr _ (List.getElem_mem h1)
  have h5 := hmr _ (List.getElem_mem h2)
  rwa [Int.emod_eq_of_lt h4.1 h4.2, Int.emod_eq_of_lt h5.1 h5.2] at h3
theorem map_rd_red {p : Int} (hk : known p = true) (a : List Int) : ∀ y ∈ a.map (rd p), 0 ≤ y ∧ y < p := fun y hy => by
  obtain ⟨x, _, rfl⟩ := List.mem_map.1 hy
  rw [rd, if_pos hk]
  have := known_lo hk
  exact ⟨Int.emod_nonneg _ (by omega), Int.emod_lt_of_pos _ (by omega)⟩
/-- Back from the values. -/
theorem intL_evL {p s : Int} {a : List Int} (h : errD p s a.length = 0) : intL p s (evL p a s a.length) = a.map (rd p) := by
  have hk := (errD_zero.1 h).1.1.1
  have hlen := evL_len p a s a.length
  refine same_values h (by rw [intL_len, hlen]) (by simp) (intL_red hk) (map_rd_red hk a) fun k hka => ?_
  have h1 := intL_ev (p := p) (s := s) (v := evL p a s a.length) (by rw [hlen]; exact h) (k := k) (by rw [hlen]; exact hka)
  simp only [hlen] at h1
  rw [h1, pf_red hk]
  simp only [evL, List.getElem_map, List.getElem_range, ph_ival hk]
/-- And there again. -/
theorem evL_intL {p s : Int} {a : List Int} (h : errD p s a.length = 0) : evL p (intL p s a) s a.length = a.map (rd p) := by
  have hk := (errD_zero.1 h).1.1.1
  refine List.ext_getElem (by rw [evL_len]; simp) fun i h1 h2 => ?_
  rw [evL_len] at h1
  simp only [evL, List.getElem_map, List.getElem_range, intL_len]
  rw [intL_ev h h1, ← ival_ph hk, rd, if_pos hk]
end Go.Proofs.Ytnmbggdfcgbniaa

namespace Go.Proofs.Ytnmbggdfcgbniaa
open Go.RowKit
open Classical
namespace Po
variable {q : Nat} [NeZero q]

/-- A point that is shifted: the coefficients are scaled. -/
theorem ev_shift (f : Nat → Fin q) (s x : Fin q) (n : Nat) : ev f (s * x) n = ev (fun i => f i * pwF s i) x n := by
  rw [ev_sm, ev_sm]
  exact sm_congr fun i _ => by rw [pwF_mulx]; grind
theorem ev_dom (f : Nat → Fin q) (s w : Fin q) (n k : Nat) : ev f (dom s w k) n = vl (fun i => f i * pwF s i) w n 0 1 k := by
  rw [vl_ev, ← ev_shift]; rfl
/-- The powers of the inverse root. -/
theorem pw_inv {w u : Fin q} {n : Nat} (hw : Prim w n) (hu : w * u = 1) {i : Nat} (hi : i < n) : pwF u i = pwF w ((n - i) % n) := by
  have h1 : pwF w i * pwF u i = 1 := by rw [← pwF_mulx, hu, pwF_one]
  have h2 : pwF w i * pwF w ((n - i) % n) = 1 := by
    rw [← pwF_add]
    cases i with
    | zero => simp; rfl
    | succ i =>
      rw [Nat.mod_eq_of_lt (by omega), show i + 1 + (n - (i + 1)) = n by omega]
      exact hw.1
  have h3 : ∀ x y z : Fin q, x * y = 1 → x * z = 1 → y = z := fun x y z a b => by
    have e1 : y = y * (x * z) := by rw [b]; grind
    have e2 : y * (x * z) = (x * y) * z := by grind
    rw [e1, e2, a]; grind
  exact h3 _ _ _ h1 h2
theorem ev_inv {w u : Fin q} {n : Nat} (hw : Prim w n) (hu : w * u = 1) (f : Nat → Fin q) {i : Nat} (hi : i < n) : ev f (pwF w ((n - i) % n)) n = vl f u n 0 1 i := by
  rw [vl_ev, pw_inv hw hu hi]
theorem sm_fold (g : Nat → Fin q) (n : Nat) : ∀ J, sm g (J * n) = sm (fun i => sm (fun j => g (j * n + i)) J) n
  | 0 => by
    rw [Nat.zero_mul]
    exact (sm_zero n).symm
  | J + 1 => by
    rw [Nat.add_mul, Nat.one_mul, sm_halves, sm_fold g n J, ← sm_add]
    rfl
/-- The folded coefficients have the same values where x^n = c. -/
theorem ev_fold (f : Nat → Fin q) {x c : Fin q} {n : Nat} (hx : pwF x n = c) (J : Nat) : ev f x (J * n) = ev (fun i => sm (fun j => f (j * n + i) * pwF c j) J) x n := by
  rw [ev_sm, ev_sm, sm_fold]
  refine sm_congr fun i _ => ?_
  have h : sm (fun j => f (j * n + i) * pwF c j) J * pwF x i = pwF x i * sm (fun j => f (j * n + i) * pwF c j) J := by grind
  rw [h, ← sm_mul]
  refine sm_congr fun j _ => ?_
  rw [pwF_add, Nat.mul_comm j n, pwF_pow, hx]
  grind
theorem dom_pow {s w : Fin q} {n : Nat} (hw : Prim w n) (k : Nat) : pwF (dom s w k) n = pwF s n := by
  rw [dom, pwF_mulx, hw.pow]; grind
end Po

theorem pf_pad {p : Int} (l : List Int) (n : Nat) : pf p (l ++ List.replicate n 0) = pf p l := funext fun i => by
  show ph p _ = ph p _
  congr 1
  rcases Nat.lt_or_ge i l.length with h | h
  · rw [getD_lt _ (by simp; omega), getD_lt _ h, List.getElem_append_left h]
  · rw [getD_ge _ h]
    rcases Nat.lt_or_ge i (l.length + n) with h2 | h2
    · rw [getD_lt _ (by simp; omega), List.getElem_append_right h]; simp
    · rw [getD_ge _ (by simp; omega)]
/-- The value of a longer list of zeros is the same. -/
theorem ev_pad {p : Int} (hk : known p = true) (l : List Int) (n : Nat) (x : Fin (Q p)) : Po.ev (pf p (l ++ List.replicate n 0)) x (l ++ List.replicate n 0).length = Po.ev (pf p l) x l.length := by
  rw [pf_pad]
  exact Po.ev_any (pf_deg hk l) (by simp) x

/-- Doubled until it is enough. -/
theorem fits_done {n j : Nat} (h1 : n ≤ 2 ^ j) (h2 : j = 0 ∨ 2 ^ (j - 1) < n) : 2 ^ j = fitsN n := by
  unfold fitsN
  cases j with
  | zero => rw [if_pos (by simpa using h1)]
  | succ j =>
    have h3 : 2 ^ j < n := by simpa using h2
    have hp : 0 < 2 ^ j := Nat.two_pow_pos j
    rw [if_neg (by omega)]
    congr 2
    exact ((Nat.log2_eq_iff (by omega)).2 ⟨by omega, by omega⟩).symm
theorem fits_pow (n : Nat) : ∃ j, fitsN n = 2 ^ j := by
  unfold fitsN
  split
  · exact ⟨0, rfl⟩
  · exact ⟨_, rfl⟩
theorem fits_le (n : Nat) : n ≤ fitsN n := by
  unfold fitsN
  split
  · omega
  · have := @Nat.lt_log2_self (n - 1)
    omega
theorem mulL_len (p : Int) (a b : List Int) : (mulL p a b).length = a.length + b.length - 1 := by simp [mulL]
theorem resM_len (p : Int) (a b : List Int) : (resM p a b).length ≤ a.length + b.length := by
  unfold resM; split
  · rw [mulL_len]; omega
  · simp
/-- The value of a product. -/
theorem mulL_ev {p : Int} (hk : known p = true) {a b : List Int} (ha : a.length ≠ 0) (hb : b.length ≠ 0) (x : Fin (Q p)) :
    Po.ev (pf p (mulL p a b)) x (mulL p a b).length = Po.ev (pf p a) x a.length * Po.ev (pf p b) x b.length := by
  obtain ⟨m, hm⟩ : ∃ m, a.length = m + 1 := ⟨a.length - 1, by omega⟩
  obtain ⟨n, hn⟩ : ∃ n, b.length = n + 1 := ⟨b.length - 1, by omega⟩
  have da := pf_deg hk a
  have db := pf_deg hk b
  rw [mulL_len, ← Po.ev_cv da db]
  have hd : Po.Deg (Po.cv (pf p a) (pf p b)) (a.length + b.length - 1) := by
    rw [hm] at da
    rw [hn] at db
    rw [show a.length + b.length - 1 = m + n + 1 by omega]
    exact (Po.deg_cv da db).2
  rw [Po.ev_any hd (m := a.length + b.length) (by omega)]
  refine ev_first x fun i hi => ?_
  rw [pf_el _ (by rw [mulL_len]; exact hi)]
  simp only [mulL, List.getElem_map, List.getElem_range, ph_ival hk]
theorem resM_ev {p : Int} {a b : List Int} (hM : errM p a b = 0) (x : Fin (Q p)) :
    Po.ev (pf p (resM p a b)) x (resM p a b).length = Po.ev (pf p a) x a.length * Po.ev (pf p b) x b.length := by
  have hk : known p = true := by
    unfold errM at hM
    split at hM
    · assumption
    · omega
  by_cases ha : a.length = 0
  · have e : resM p a b = [] := by rw [resM, if_neg (fun h => h.2.1 ha)]
    rw [e, ha]
    show (0 : Fin (Q p)) = 0 * _
    grind
  · by_cases hb : b.length = 0
    · have e : resM p a b = [] := by rw [resM, if_neg (fun h => h.2.2 hb)]
      rw [e, hb]
      show (0 : Fin (Q p)) = _ * 0
      grind
    · have e : resM p a b = mulL p a b := by rw [resM, if_pos ⟨hM, ha, hb⟩]
      rw [e]
      exact mulL_ev hk ha hb x
/-- The product out of the products of the values. -/
theorem mul_by_values {p s : Int} {n : Nat} {a b v : List Int} (h : errD p s n = 0) (ha : a.length ≠ 0) (hb : b.length ≠ 0) (hn : a.length + b.length - 1 ≤ n) (hv : v.length = n)
    (hvv : ∀ k (g : k < v.length), v[k] = ival p (Po.ev (pf p a) (dpt p s n k) a.length * Po.ev (pf p b) (dpt p s n k) b.length)) :
    intL p s v = mulL p a b ++ List.replicate (n - (a.length + b.length - 1)) 0 := by
  have hk := (errD_zero.1 h).1.1.1
  have hpl := known_lo hk
  have hlen : (mulL p a b ++ List.replicate (n - (a.length + b.length - 1)) 0).length = n := by rw [List.length_append, mulL_len, List.length_replicate]; omega
  refine same_values h (by rw [intL_len, hv]) hlen (intL_red hk) (fun y hy => ?_) fun k hkn => ?_
  · rcases List.mem_append.1 hy with h1 | h1
    · simp only [mulL, List.mem_map] at h1
      obtain ⟨i, _, rfl⟩ := h1
      exact ival_range hk _
    · obtain rfl := List.eq_of_mem_replicate h1
      omega
  · have h1 := intL_ev (p := p) (s := s) (v := v) (by rw [hv]; exact h) (k := k) (by omega)
    have h2 := ev_pad hk (mulL p a b) (n - (a.length + b.length - 1)) (dpt p s n k)
    rw [hlen, mulL_ev hk ha hb] at h2
    rw [h2]
    simp only [hv] at h1
    rw [h1, hvv k (by omega), ph_ival hk]
end Go.Proofs.Ytnmbggdfcgbniaa
