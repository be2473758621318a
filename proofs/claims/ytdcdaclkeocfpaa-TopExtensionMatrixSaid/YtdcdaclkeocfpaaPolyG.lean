/- Polynomials modulo q: division with remainder step by step, common divisors, products of X - x, interpolation. Nothing here speaks of the program. -/
import Derived.Test.YtdcdaclkeocfpaaPolyM
namespace Go.Proofs.Ytdcdaclkeocfpaa.Po

variable {q : Nat} [NeZero q]

theorem ad_comm (f g : Nat → Fin q) : ad f g = ad g f := funext fun i => by show f i + g i = g i + f i; grind
theorem ad_ze (f : Nat → Fin q) : ad f ze = f := funext fun i => by show f i + 0 = f i; grind
theorem ze_ad (f : Nat → Fin q) : ad ze f = f := funext fun i => by show 0 + f i = f i; grind
theorem cv_ze (f : Nat → Fin q) : cv f ze = ze := by rw [cv_comm]; exact funext (cv_ze_l f)
theorem ze_cv (f : Nat → Fin q) : cv ze f = ze := funext (cv_ze_l f)
theorem one_cv (f : Nat → Fin q) : cv (co 1) f = f := by
  rw [cv_co]; funext i; show 1 * f i = f i; grind
theorem deg_ze (n : Nat) : Deg (ze : Nat → Fin q) n := fun _ _ => rfl

/-! Quotient and remainder. -/
/-- f = u b + r, with a remainder shorter than b. -/
def DivOf (f b u r : Nat → Fin q) : Prop := ad (cv u b) r = f ∧ ∃ m, Deg b (m + 1) ∧ b m ≠ 0 ∧ Deg r m
theorem DivOf.unique (h : Fld q) {f b u v r s : Nat → Fin q} {nu nv : Nat} (hu : Deg u nu) (hv : Deg v nv) (h1 : DivOf f b u r) (h2 : DivOf f b v s) : u = v ∧ r = s := by
  obtain ⟨e1, m, hb, hm, hr⟩ := h1
  obtain ⟨e2, m', hb', hm', hs⟩ := h2
  have : m = m' := by
    rcases Nat.lt_trichotomy m m' with l | l | l
    · exact absurd (hb m' (by omega)) hm'
    · exact l
    · exact absurd (hb' m (by omega)) hm
  subst this
  exact div_unique h hb hm hu hv hr hs (e1.trans e2.symm)
/-- One round: the leading coefficient is taken away. -/
theorem div_round {f b u r : Nat → Fin q} {m n : Nat} {c : Fin q} (h : ad (cv u b) r = f) (hb : Deg b (m + 1)) (hr : Deg r (n + m + 1)) (hc : c * b m = r (n + m)) :
    ad (cv (ad u (shn n (co c))) b) (sb r (cv (shn n (co c)) b)) = f ∧ Deg (sb r (cv (shn n (co c)) b)) (n + m) := by
  constructor
  · rw [ad_cv, ← h]
    funext i
    simp only [ad, sb]
    grind
  · have e : cv (shn n (co c)) b = shn n (sc c b) := by rw [cv_shn, cv_co]
    rw [e]
    intro i hi
    rcases Nat.lt_or_eq_of_le hi with l | l
    · have h1 : shn n (sc c b) i = 0 := (Deg.shn (Deg.sc hb c) n) i (by omega)
      show r i - shn n (sc c b) i = 0
      rw [h1, hr i (by omega)]; grind
    · subst l
      show r (n + m) - shn n (sc c b) (n + m) = 0
      rw [shn_at]
      show r (n + m) - c * b m = 0
      rw [hc]; grind

/-! Divisors. -/
def Dv (g f : Nat → Fin q) : Prop := ∃ u n, Deg u n ∧ cv u g = f
/-- f is a combination of a and b. -/
def Comb (a b f : Nat → Fin q) : Prop := ∃ s t n, Deg s n ∧ Deg t n ∧ ad (cv s a) (cv t b) = f
theorem Comb.left (a b : Nat → Fin q) : Comb a b a := ⟨co 1, ze, 1, deg_co 1, deg_ze 1, by rw [one_cv, ze_cv, ad_ze]⟩
theorem Comb.right (a b : Nat → Fin q) : Comb a b b := ⟨ze, co 1, 1, deg_ze 1, deg_co 1, by rw [one_cv, ze_cv, ze_ad]⟩
theorem Comb.trans {a b f g h : Nat → Fin q} (hf : Comb a b f) (hg : Comb a b g) (hh : Comb f g h) : Comb a b h := by
  obtain ⟨s, t, n, hs, ht, e⟩ := hf
  obtain ⟨s', t', n', hs', ht', e'⟩ := hg
  obtain ⟨x, y, k, hx, hy, e2⟩ := hh
  refine ⟨ad (cv x s) (cv y s'), ad (cv x t) (cv y t'), k + (n + n'), ?_, ?_, ?_⟩
  · exact ((deg_cv' hx hs).mono (by omega)).ad ((deg_cv' hy hs').mono (by omega))
  · exact ((deg_cv' hx ht).mono (by omega)).ad ((deg_cv' hy ht').mono (by omega))
  · rw [ad_cv, ad_cv, cv_assoc, cv_assoc, cv_assoc, cv_assoc, ← e2, ← e, ← e', cv_ad, cv_ad]
    funext i
    simp only [ad]
    grind
theorem Comb.dv {a b f d : Nat → Fin q} (h : Comb a b f) (ha : Dv d a) (hb : Dv d b) : Dv d f := by
  obtain ⟨s, t, n, hs, ht, e⟩ := h
  obtain ⟨u, k, hu, ea⟩ := ha
  obtain ⟨v, l, hv, eb⟩ := hb
  refine ⟨ad (cv s u) (cv t v), n + (k + l), ((deg_cv' hs hu).mono (by omega)).ad ((deg_cv' ht hv).mono (by omega)), ?_⟩
  rw [ad_cv, cv_assoc, cv_assoc, ea, eb, e]
/-- One round of Euclid's algorithm. -/
theorem euclid_round {A B a b u r : Nat → Fin q} {n : Nat} (hu : Deg u n) (e : ad (cv u b) r = a) (h1 : Comb A B a) (h2 : Comb A B b) (h3 : Comb a b A) (h4 : Comb a b B) :
    Comb A B r ∧ Comb b r A ∧ Comb b r B := by
  have hr : Comb a b r := ⟨co 1, sb ze u, max n 1, (deg_co 1).mono (by omega), (deg_ze _).sb (hu.mono (by omega)), by
    rw [one_cv, sb_cv, ze_cv, ← e]; funext i; simp only [ad, sb, ze]; grind⟩
  have ha : Comb b r a := ⟨u, co 1, max n 1, hu.mono (by omega), (deg_co 1).mono (by omega), by rw [one_cv]; exact e⟩
  exact ⟨h1.trans h2 hr, ha.trans (Comb.left b r) h3, ha.trans (Comb.left b r) h4⟩
/-- g is the greatest common divisor of a and b with the leading coefficient 1, or all are zero. -/
structure GcdOf (a b g : Nat → Fin q) : Prop where
  da : Dv g a
  db : Dv g b
  comb : Comb a b g
  top : g = ze ∨ ∃ k, Deg g (k + 1) ∧ g k = 1
/-- g is f with the leading coefficient 1, or both are zero. -/
def Mon (f g : Nat → Fin q) : Prop := (f = ze ∧ g = ze) ∨ ∃ k c, Deg f (k + 1) ∧ c * f k = 1 ∧ g = sc c f
theorem Comb.dv_ze {f a : Nat → Fin q} (h : Comb f ze a) : Dv f a := by
  obtain ⟨s, t, n, hs, _, e⟩ := h
  exact ⟨s, n, hs, by rw [← e, cv_ze, ad_ze]⟩
theorem mon_gcd {A B f g : Nat → Fin q} (h1 : Comb A B f) (h3 : Comb f ze A) (h4 : Comb f ze B) (hm : Mon f g) : GcdOf A B g := by
  rcases hm with ⟨e, rfl⟩ | ⟨k, c, hk, hc, rfl⟩
  · rw [e] at h1 h3 h4
    exact ⟨h3.dv_ze, h4.dv_ze, h1, .inl rfl⟩
  · have hd : ∀ {A : Nat → Fin q}, Dv f A → Dv (sc c f) A := by
      rintro A ⟨u, n, hu, e⟩
      refine ⟨sc (f k) u, n, hu.sc _, ?_⟩
      rw [← e]
      funext i
      rw [cv_sc_l, cv_comm, cv_sc_l, cv_comm f u]
      grind
    refine ⟨hd h3.dv_ze, hd h4.dv_ze, ?_, .inr ⟨k, hk.sc c, hc⟩⟩
    obtain ⟨s, t, n, hs, ht, e⟩ := h1
    refine ⟨sc c s, sc c t, n, hs.sc c, ht.sc c, ?_⟩
    rw [← e]
    funext i
    simp only [ad, sc]
    rw [cv_sc_l, cv_sc_l]
    grind
theorem gcd_zero {a b g : Nat → Fin q} (h : GcdOf a b g) (e : g = ze) : a = ze ∧ b = ze := by
  obtain ⟨u, _, _, ea⟩ := h.da
  obtain ⟨v, _, _, eb⟩ := h.db
  rw [e, cv_ze] at ea eb
  exact ⟨ea.symm, eb.symm⟩
theorem gcd_of_zero {a b g : Nat → Fin q} (h : GcdOf a b g) (ha : a = ze) (hb : b = ze) : g = ze := by
  obtain ⟨s, t, n, _, _, e⟩ := h.comb
  rw [ha, hb, cv_ze, cv_ze, ad_ze] at e
  exact e.symm
theorem GcdOf.unique {a b g g' : Nat → Fin q} (h : GcdOf a b g) (h' : GcdOf a b g') : g = g' := by
  rcases h.top with e | ⟨k, hk, hk1⟩
  · obtain ⟨ea, eb⟩ := gcd_zero h e
    rw [e, gcd_of_zero h' ea eb]
  · rcases h'.top with e | ⟨j, hj, hj1⟩
    · obtain ⟨ea, eb⟩ := gcd_zero h' e
      rw [e, gcd_of_zero h ea eb]
    · obtain ⟨u, n, hu, eu⟩ := h'.comb.dv h.da h.db
      obtain ⟨v, m, hv, ev⟩ := h.comb.dv h'.da h'.db
      -- g' = u g, g = v g'
      by_cases h01 : (1 : Fin q) = 0
      · funext i
        have : ∀ x : Fin q, x = 0 := fun x => by
          have e : x = x * 1 := by grind
          rw [h01] at e; rw [e]; grind
        rw [this (g i), this (g' i)]
      have gk : g k ≠ 0 := by rw [hk1]; exact h01
      have gj : g' j ≠ 0 := by rw [hj1]; exact h01
      have key : ∀ {f c w : Nat → Fin q} {d l nn : Nat}, Deg w nn → cv w f = c → Deg f (d + 1) → f d = 1 → Deg c (l + 1) → c l ≠ 0 → ∃ e, l = e + d ∧ Deg w (e + 1) := by
        intro f c w d l nn hw e hf hf1 hc hcl
        rcases lead hw with l0 | ⟨x, _, hx, hx0⟩
        · rw [l0, ze_cv] at e
          exact absurd (by rw [← e]; rfl) hcl
        · have h1 := deg_cv hx hf
          rw [e, hf1] at h1
          have h2 : c (x + d) ≠ 0 := by rw [h1.1]; intro h3; exact hx0 (by grind)
          have h3 : x + d ≤ l := Nat.le_of_not_lt fun h => h2 (hc _ (by omega))
          have h4 : l ≤ x + d := Nat.le_of_not_lt fun h => hcl (h1.2 _ (by omega))
          exact ⟨x, by omega, hx⟩
      obtain ⟨e1, l1, d1⟩ := key hu eu hk hk1 hj gj
      obtain ⟨e2, l2, d2⟩ := key hv ev hj hj1 hk gk
      have z1 : e1 = 0 := by omega
      subst z1
      have hjk : j = k := by omega
      have ec : u = co (u 0) := by
        funext i; cases i with
        | zero => rfl
        | succ i => exact d1 (i + 1) (by omega)
      rw [ec, cv_co] at eu
      have h5 := congrFun eu k
      simp only [sc] at h5
      rw [hk1, ← hjk, hj1] at h5
      have h6 : u 0 = 1 := by grind
      rw [← eu, h6]
      funext i
      show g i = 1 * g i
      grind

/-! The product of all X - x. -/
def van (xs : List (Fin q)) : Nat → Fin q := xs.foldl (fun f x => cv (xm x) f) (co 1)
theorem van_snoc (xs : List (Fin q)) (x : Fin q) : van (xs ++ [x]) = cv (xm x) (van xs) := by simp [van, List.foldl_append]
theorem xm_ev (x y : Fin q) : ev (xm x) y 2 = y - x := by
  show 0 - x + y * (1 + y * 0) = y - x; grind
theorem rev_induct {α : Type} {P : List α → Prop} (h0 : P []) (h1 : ∀ m x, P m → P (m ++ [x])) (l : List α) : P l := by
  have : ∀ r : List α, P r.reverse := fun r => by
    induction r with
    | nil => exact h0
    | cons x r ih => rw [List.reverse_cons]; exact h1 _ _ ih
  have h := this l.reverse
  rwa [List.reverse_reverse] at h
theorem van_deg (xs : List (Fin q)) : Deg (van xs) (xs.length + 1) ∧ van xs xs.length = 1 := by
  refine rev_induct (P := fun xs => Deg (van xs) (xs.length + 1) ∧ van xs xs.length = 1) ⟨deg_co 1, rfl⟩ ?_ xs
  intro m x ih
  rw [van_snoc, List.length_append, List.length_singleton]
  obtain ⟨h1, h2⟩ := deg_cv (xm_deg x) ih.1
  rw [show 1 + m.length = m.length + 1 by omega] at h1 h2
  refine ⟨h2, ?_⟩
  rw [h1, ih.2]
  show (1 : Fin q) * 1 = 1
  grind
theorem van_ev (h : Fld q) (xs : List (Fin q)) (y : Fin q) (h1 : (1 : Fin q) ≠ 0) : ev (van xs) y (xs.length + 1) = 0 ↔ y ∈ xs := by
  refine rev_induct (P := fun xs => ev (van xs) y (xs.length + 1) = 0 ↔ y ∈ xs) ?_ ?_ xs
  · constructor
    · intro e
      have : ev (co (1 : Fin q)) y 1 = 1 := by show (1 : Fin q) + y * 0 = 1; grind
      rw [show van ([] : List (Fin q)) = co 1 from rfl] at e
      exact absurd (this.symm.trans e) h1
    · intro hm; cases hm
  · intro m x ih
    have e := ev_cv (xm_deg x) (van_deg m).1 y
    rw [xm_ev] at e
    rw [van_snoc, List.length_append, List.length_singleton]
    have hd := (deg_cv' (xm_deg x) (van_deg m).1)
    have hd2 : Deg (cv (xm x) (van m)) (m.length + 1 + 1) := by
      have := (van_deg (m ++ [x])).1
      rw [van_snoc, List.length_append, List.length_singleton] at this; exact this
    rw [ev_any hd2 (by omega)] at e
    rw [e, List.mem_append]
    constructor
    · intro hz
      rcases h.no hz with h2 | h2
      · right; simp; grind
      · exact .inl (ih.1 h2)
    · rintro (hm | hm)
      · rw [ih.2 hm]; grind
      · simp at hm; subst hm; grind
/-- Interpolation is unique. -/
theorem interp_unique (h : Fld q) {xs : List (Fin q)} (hn : xs.Nodup) {f g : Nat → Fin q} (hf : Deg f xs.length) (hg : Deg g xs.length) (e : ∀ x ∈ xs, ev f x xs.length = ev g x xs.length) : f = g := by
  have hz := zeros h xs (sb f g) hn (hf.sb hg) fun x hx => by rw [ev_sb, e x hx]; grind
  funext i
  have := congrFun hz i
  simp only [sb, ze] at this
  grind
end Go.Proofs.Ytdcdaclkeocfpaa.Po
