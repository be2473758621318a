/- Polynomials over the numbers modulo q, as functions from exponents to coefficients: products, degrees, values, division, zeros. Nothing here speaks of the program. -/
namespace Go.Proofs.Ytdcdaclkeocfpaa.Po

variable {q : Nat} [NeZero q]

/-- All coefficients but the first. -/
def tl (f : Nat → Fin q) : Nat → Fin q := fun i => f (i + 1)
/-- X times f. -/
def sh (f : Nat → Fin q) : Nat → Fin q
  | 0 => 0
  | n + 1 => f n
/-- The product. -/
def cv : (Nat → Fin q) → (Nat → Fin q) → Nat → Fin q
  | f, g, 0 => f 0 * g 0
  | f, g, n + 1 => f 0 * g (n + 1) + cv (tl f) g n
def ad (f g : Nat → Fin q) : Nat → Fin q := fun i => f i + g i
def sb (f g : Nat → Fin q) : Nat → Fin q := fun i => f i - g i
def sc (c : Fin q) (f : Nat → Fin q) : Nat → Fin q := fun i => c * f i
def ze : Nat → Fin q := fun _ => 0
def co (c : Fin q) : Nat → Fin q
  | 0 => c
  | _ + 1 => 0
/-- f has at most n coefficients. -/
def Deg (f : Nat → Fin q) (n : Nat) : Prop := ∀ i, n ≤ i → f i = 0
/-- The value at x of a polynomial with at most n coefficients. -/
def ev : (Nat → Fin q) → Fin q → Nat → Fin q
  | _, _, 0 => 0
  | f, x, n + 1 => f 0 + x * ev (tl f) x n

theorem tl_sh (f : Nat → Fin q) : tl (sh f) = f := rfl
theorem tl_ze : tl (ze : Nat → Fin q) = ze := rfl
omit [NeZero q] in
theorem tl_ad (f g : Nat → Fin q) : tl (ad f g) = ad (tl f) (tl g) := rfl
omit [NeZero q] in
theorem tl_sc (c : Fin q) (f : Nat → Fin q) : tl (sc c f) = sc c (tl f) := rfl
theorem cv_ze_l (g : Nat → Fin q) : ∀ n, cv ze g n = 0
  | 0 => by show (0 : Fin q) * g 0 = 0; grind
  | n + 1 => by
    show (0 : Fin q) * g (n + 1) + cv (tl ze) g n = 0
    rw [tl_ze, cv_ze_l g n]; grind
theorem cv_ad_l (f g h : Nat → Fin q) : ∀ n, cv (ad f g) h n = cv f h n + cv g h n := by
  intro n
  induction n generalizing f g with
  | zero => show (f 0 + g 0) * h 0 = _; simp only [cv]; grind
  | succ n ih =>
    show (f 0 + g 0) * h (n + 1) + cv (ad (tl f) (tl g)) h n = _
    rw [ih]; simp only [cv]; grind
theorem cv_sc_l (c : Fin q) (f h : Nat → Fin q) : ∀ n, cv (sc c f) h n = c * cv f h n := by
  intro n
  induction n generalizing f with
  | zero => show c * f 0 * h 0 = _; simp only [cv]; grind
  | succ n ih =>
    show c * f 0 * h (n + 1) + cv (sc c (tl f)) h n = _
    rw [ih]; simp only [cv]; grind
theorem cv_last (f g : Nat → Fin q) : ∀ n, cv f g (n + 1) = cv f (tl g) n + f (n + 1) * g 0 := by
  intro n
  induction n generalizing f with
  | zero => simp only [cv, tl]
  | succ n ih =>
    show f 0 * g (n + 2) + cv (tl f) g (n + 1) = f 0 * g (n + 2) + cv (tl f) (tl g) n + f (n + 2) * g 0
    rw [ih]; simp only [tl]; grind
theorem cv_comm_at (f g : Nat → Fin q) : ∀ n, cv f g n = cv g f n := by
  intro n
  induction n generalizing f with
  | zero => simp only [cv]; grind
  | succ n ih =>
    rw [cv_last g f n]
    show f 0 * g (n + 1) + cv (tl f) g n = _
    rw [ih]; grind
theorem cv_comm (f g : Nat → Fin q) : cv f g = cv g f := funext (cv_comm_at f g)
omit [NeZero q] in
theorem tl_cv (f g : Nat → Fin q) : tl (cv f g) = ad (sc (f 0) (tl g)) (cv (tl f) g) := rfl
theorem cv_assoc_at (f g h : Nat → Fin q) : ∀ n, cv (cv f g) h n = cv f (cv g h) n := by
  intro n
  induction n generalizing f with
  | zero => simp only [cv]; grind
  | succ n ih =>
    show f 0 * g 0 * h (n + 1) + cv (tl (cv f g)) h n = f 0 * (g 0 * h (n + 1) + cv (tl g) h n) + cv (tl f) (cv g h) n
    rw [tl_cv, cv_ad_l, cv_sc_l, ih]; grind
theorem cv_assoc (f g h : Nat → Fin q) : cv (cv f g) h = cv f (cv g h) := funext (cv_assoc_at f g h)
theorem cv_ad (f g h : Nat → Fin q) : cv f (ad g h) = ad (cv f g) (cv f h) := by
  rw [cv_comm, cv_comm f g, cv_comm f h]; exact funext (cv_ad_l g h f)
theorem ad_cv (f g h : Nat → Fin q) : cv (ad f g) h = ad (cv f h) (cv g h) := funext (cv_ad_l f g h)
theorem sb_eq (f g : Nat → Fin q) : sb f g = ad f (sc (0 - 1) g) := by
  funext i; simp only [sb, ad, sc]; grind
theorem sb_cv (f g h : Nat → Fin q) : cv (sb f g) h = sb (cv f h) (cv g h) := by
  rw [sb_eq, ad_cv, sb_eq]; congr 1; exact funext (cv_sc_l _ _ _)
theorem cv_co (c : Fin q) (g : Nat → Fin q) : cv (co c) g = sc c g := by
  funext n
  cases n with
  | zero => rfl
  | succ n =>
    show c * g (n + 1) + cv (tl (co c)) g n = c * g (n + 1)
    have e : tl (co c) = ze := rfl
    rw [e, cv_ze_l]; grind
theorem cv_sh (f g : Nat → Fin q) : cv (sh f) g = sh (cv f g) := by
  funext n
  cases n with
  | zero => show (0 : Fin q) * g 0 = 0; grind
  | succ n => show (0 : Fin q) * g (n + 1) + cv f g n = cv f g n; grind
theorem split (f : Nat → Fin q) : f = ad (co (f 0)) (sh (tl f)) := by
  funext i; cases i with
  | zero => show f 0 = f 0 + 0; grind
  | succ i => show f (i + 1) = 0 + f (i + 1); grind

/-! Degrees. -/
theorem Deg.mono {f : Nat → Fin q} {m n : Nat} (h : Deg f m) (hmn : m ≤ n) : Deg f n := fun i hi => h i (by omega)
theorem Deg.tl {f : Nat → Fin q} {n : Nat} (h : Deg f (n + 1)) : Deg (tl f) n := fun i hi => h (i + 1) (by omega)
theorem Deg.zero {f : Nat → Fin q} (h : Deg f 0) : f = ze := funext fun i => h i (Nat.zero_le _)
theorem Deg.ad {f g : Nat → Fin q} {n : Nat} (h : Deg f n) (k : Deg g n) : Deg (ad f g) n := fun i hi => by
  show f i + g i = 0; rw [h i hi, k i hi]; grind
theorem Deg.sb {f g : Nat → Fin q} {n : Nat} (h : Deg f n) (k : Deg g n) : Deg (sb f g) n := fun i hi => by
  show f i - g i = 0; rw [h i hi, k i hi]; grind
theorem Deg.sc {f : Nat → Fin q} {n : Nat} (h : Deg f n) (c : Fin q) : Deg (sc c f) n := fun i hi => by
  show c * f i = 0; rw [h i hi]; grind
theorem Deg.sh {f : Nat → Fin q} {n : Nat} (h : Deg f n) : Deg (sh f) (n + 1) := fun i hi => by
  cases i with
  | zero => omega
  | succ i => exact h i (by omega)
theorem deg_co (c : Fin q) : Deg (co c) 1 := fun i hi => by
  cases i with
  | zero => omega
  | succ i => rfl
theorem deg_cv {f g : Nat → Fin q} {m n : Nat} (hf : Deg f (m + 1)) (hg : Deg g (n + 1)) : cv f g (m + n) = f m * g n ∧ Deg (cv f g) (m + n + 1) := by
  induction m generalizing f with
  | zero =>
    have e : f = co (f 0) := by
      funext i; cases i with
      | zero => rfl
      | succ i => exact hf (i + 1) (by omega)
    rw [e, cv_co, Nat.zero_add]
    exact ⟨rfl, Deg.sc hg _⟩
  | succ m ih =>
    obtain ⟨h1, h2⟩ := ih hf.tl
    constructor
    · rw [show m + 1 + n = m + n + 1 by omega]
      show f 0 * g (m + n + 1) + cv (tl f) g (m + n) = _
      rw [h1, hg (m + n + 1) (by omega)]; simp only [tl]; grind
    · intro i hi
      obtain ⟨j, rfl⟩ : ∃ j, i = j + 1 := ⟨i - 1, by omega⟩
      show f 0 * g (j + 1) + cv (tl f) g j = 0
      rw [h2 j (by omega), hg (j + 1) (by omega)]; grind
theorem deg_cv' {f g : Nat → Fin q} {m n : Nat} (hf : Deg f m) (hg : Deg g n) : Deg (cv f g) (m + n) := by
  cases m with
  | zero => rw [hf.zero]; intro i _; exact cv_ze_l g i
  | succ m =>
    cases n with
    | zero => rw [hg.zero, cv_comm]; intro i _; exact cv_ze_l f i
    | succ n => exact (deg_cv hf hg).2.mono (by omega)
/-- A polynomial that is not zero has a leading coefficient. -/
theorem lead {f : Nat → Fin q} : ∀ {n : Nat}, Deg f n → f = ze ∨ ∃ k, k < n ∧ Deg f (k + 1) ∧ f k ≠ 0
  | 0, h => .inl h.zero
  | n + 1, h => by
    by_cases e : f n = 0
    · have h' : Deg f n := fun i hi => by
        rcases Nat.lt_or_eq_of_le hi with l | l
        · exact h i l
        · rw [← l]; exact e
      rcases lead h' with l | ⟨k, hk, l⟩
      · exact .inl l
      · exact .inr ⟨k, by omega, l⟩
    · exact .inr ⟨n, by omega, h, e⟩

/-! Values. -/
theorem ev_ze (x : Fin q) : ∀ n, ev (ze : Nat → Fin q) x n = 0
  | 0 => rfl
  | n + 1 => by
    show (0 : Fin q) + x * ev (tl ze) x n = 0
    rw [tl_ze, ev_ze x n]; grind
theorem ev_deg {f : Nat → Fin q} {n : Nat} (h : Deg f n) (x : Fin q) : ∀ m, ev f x (n + m) = ev f x n := by
  intro m
  induction n generalizing f with
  | zero => rw [h.zero, ev_ze, ev_ze]
  | succ n ih =>
    rw [show n + 1 + m = n + m + 1 by omega]
    show f 0 + x * ev (tl f) x (n + m) = f 0 + x * ev (tl f) x n
    rw [ih h.tl]
theorem ev_any {f : Nat → Fin q} {n m : Nat} (h : Deg f n) (hm : n ≤ m) (x : Fin q) : ev f x m = ev f x n := by
  have := ev_deg h x (m - n); rwa [show n + (m - n) = m by omega] at this
theorem ev_ad (f g : Nat → Fin q) (x : Fin q) : ∀ n, ev (ad f g) x n = ev f x n + ev g x n := by
  intro n
  induction n generalizing f g with
  | zero => show (0 : Fin q) = 0 + 0; grind
  | succ n ih =>
    show f 0 + g 0 + x * ev (ad (tl f) (tl g)) x n = f 0 + x * ev (tl f) x n + (g 0 + x * ev (tl g) x n)
    rw [ih]; grind
theorem ev_sc (c : Fin q) (f : Nat → Fin q) (x : Fin q) : ∀ n, ev (sc c f) x n = c * ev f x n := by
  intro n
  induction n generalizing f with
  | zero => show (0 : Fin q) = c * 0; grind
  | succ n ih =>
    show c * f 0 + x * ev (sc c (tl f)) x n = c * (f 0 + x * ev (tl f) x n)
    rw [ih]; grind
theorem ev_sb (f g : Nat → Fin q) (x : Fin q) (n : Nat) : ev (sb f g) x n = ev f x n - ev g x n := by
  rw [sb_eq, ev_ad, ev_sc]; grind
theorem ev_sh (f : Nat → Fin q) (x : Fin q) (n : Nat) : ev (sh f) x (n + 1) = x * ev f x n := by
  show (0 : Fin q) + x * ev f x n = _; grind
theorem ev_cv {f g : Nat → Fin q} {m n : Nat} (hf : Deg f m) (hg : Deg g n) (x : Fin q) : ev (cv f g) x (m + n) = ev f x m * ev g x n := by
  induction m generalizing f with
  | zero =>
    have e : cv f g = ze := by rw [hf.zero]; exact funext (cv_ze_l g)
    rw [e, ev_ze]; show (0 : Fin q) = 0 * _; grind
  | succ m ih =>
    have e : cv f g = ad (sc (f 0) g) (sh (cv (tl f) g)) := by
      rw [← cv_sh, ← cv_co, ← ad_cv, ← split]
    rw [e, ev_ad, ev_sc, show m + 1 + n = m + n + 1 by omega, ev_sh, ih hf.tl, ev_any hg (by omega)]
    show _ = (f 0 + x * ev (tl f) x m) * ev g x n
    grind

/-- Powers. -/
def pwF (x : Fin q) : Nat → Fin q
  | 0 => 1
  | n + 1 => pwF x n * x
theorem ev_snoc (f : Nat → Fin q) (x : Fin q) : ∀ n, ev f x (n + 1) = ev f x n + f n * pwF x n := by
  intro n
  induction n generalizing f with
  | zero => show f 0 + x * 0 = 0 + f 0 * 1; grind
  | succ n ih =>
    show f 0 + x * ev (tl f) x (n + 1) = f 0 + x * ev (tl f) x n + f (n + 1) * (pwF x n * x)
    rw [ih]; simp only [tl]; grind
/-- X to the n times f. -/
def shn : Nat → (Nat → Fin q) → Nat → Fin q
  | 0, f => f
  | n + 1, f => sh (shn n f)
theorem cv_shn (f g : Nat → Fin q) : ∀ n, cv (shn n f) g = shn n (cv f g)
  | 0 => rfl
  | n + 1 => by show cv (sh (shn n f)) g = sh (shn n (cv f g)); rw [cv_sh, cv_shn f g n]
theorem shn_at (f : Nat → Fin q) : ∀ n i, shn n f (n + i) = f i
  | 0, i => by rw [Nat.zero_add]; rfl
  | n + 1, i => by
    rw [show n + 1 + i = n + i + 1 by omega]
    exact shn_at f n i
theorem shn_low (f : Nat → Fin q) : ∀ n i, i < n → shn n f i = 0
  | n + 1, 0, _ => rfl
  | n + 1, i + 1, h => shn_low f n i (by omega)
theorem Deg.shn {f : Nat → Fin q} {m : Nat} (h : Deg f m) (n : Nat) : Deg (shn n f) (n + m) := fun i hi => by
  obtain ⟨j, rfl⟩ : ∃ j, i = n + j := ⟨i - n, by omega⟩
  rw [shn_at]; exact h j (by omega)

/-! A field. -/
/-- Each number but 0 has an inverse. -/
def Fld (q : Nat) [NeZero q] : Prop := ∀ a : Fin q, a ≠ 0 → ∃ b, a * b = 1
theorem Fld.no {a b : Fin q} (h : Fld q) (e : a * b = 0) : a = 0 ∨ b = 0 := by
  by_cases ha : a = 0
  · exact .inl ha
  · obtain ⟨c, hc⟩ := h a ha
    have : b = a * b * c := by grind
    rw [e] at this
    exact .inr (by grind)
/-- A quotient and a remainder are unique. -/
theorem div_unique (h : Fld q) {b u v r s : Nat → Fin q} {m nu nv : Nat} (hb : Deg b (m + 1)) (hbm : b m ≠ 0) (hu : Deg u nu) (hv : Deg v nv) (hr : Deg r m) (hs : Deg s m)
    (e : ad (cv u b) r = ad (cv v b) s) : u = v ∧ r = s := by
  have hd : Deg (sb u v) (max nu nv) := (hu.mono (Nat.le_max_left _ _)).sb (hv.mono (Nat.le_max_right _ _))
  have e2 : cv (sb u v) b = sb s r := by
    rw [sb_cv]; funext i
    have := congrFun e i
    simp only [ad, sb] at this ⊢
    grind
  rcases lead hd with l | ⟨k, _, hk, hk0⟩
  · have huv : u = v := by
      funext i
      have := congrFun l i
      simp only [sb, ze] at this
      grind
    refine ⟨huv, funext fun i => ?_⟩
    have := congrFun e i
    rw [huv] at this
    simp only [ad] at this
    grind
  · exfalso
    have h1 := (deg_cv hk hb).1
    rw [e2] at h1
    have h2 : sb s r (k + m) = 0 := (hs.sb hr) (k + m) (by omega)
    rw [h2] at h1
    rcases h.no h1.symm with h3 | h3
    · exact hk0 h3
    · exact hbm h3
/-- A product is zero only if a factor is. -/
theorem cv_zero (h : Fld q) {f g : Nat → Fin q} {m n : Nat} (hf : Deg f m) (hg : Deg g n) (e : cv f g = ze) : f = ze ∨ g = ze := by
  rcases lead hf with l | ⟨k, _, hk, hk0⟩
  · exact .inl l
  · rcases lead hg with l | ⟨j, _, hj, hj0⟩
    · exact .inr l
    · exfalso
      have h1 := (deg_cv hk hj).1
      rw [e] at h1
      rcases h.no h1.symm with h3 | h3
      · exact hk0 h3
      · exact hj0 h3

/-! Zeros. -/
/-- The quotient by X - x. -/
def dq (f : Nat → Fin q) (x : Fin q) (n : Nat) : Nat → Fin q := fun i => ev (fun j => f (i + 1 + j)) x n
theorem dq_deg {f : Nat → Fin q} {n : Nat} (h : Deg f (n + 1)) (x : Fin q) : Deg (dq f x n) n := fun i hi => by
  have e : (fun j => f (i + 1 + j)) = ze := funext fun j => h _ (by omega)
  show ev _ x n = 0
  rw [e, ev_ze]
def xm (x : Fin q) : Nat → Fin q
  | 0 => 0 - x
  | 1 => 1
  | _ + 2 => 0
theorem xm_deg (x : Fin q) : Deg (xm x) 2 := fun i hi => by
  match i, hi with
  | i + 2, _ => rfl
theorem cv_xm (x : Fin q) (g : Nat → Fin q) : cv (xm x) g = ad (sc (0 - x) g) (sh g) := by
  have e : xm x = ad (co (0 - x)) (sh (co 1)) := by
    funext i
    match i with
    | 0 => show 0 - x = 0 - x + 0; grind
    | 1 => show (1 : Fin q) = 0 + 1; grind
    | i + 2 => show (0 : Fin q) = 0 + 0; grind
  rw [e, ad_cv, cv_co, cv_sh, cv_co]
  congr 1
  funext i
  cases i with
  | zero => rfl
  | succ i => show 1 * g i = g i; grind
theorem dq_step {f : Nat → Fin q} {n : Nat} (h : Deg f (n + 1)) (x : Fin q) : f = ad (cv (xm x) (dq f x n)) (co (ev f x (n + 1))) := by
  have step : ∀ i, ev (fun j => f (i + j)) x (n + 1) = f i + x * dq f x n i := fun i => by
    show f (i + 0) + x * ev (tl fun j => f (i + j)) x n = _
    have e : (tl fun j => f (i + j)) = fun j => f (i + 1 + j) := funext fun j => by show f (i + (j + 1)) = _; rw [show i + (j + 1) = i + 1 + j by omega]
    rw [e]; rfl
  have same : ∀ i, dq f x n i = ev (fun j => f (i + 1 + j)) x (n + 1) := fun i => by
    have hd : Deg (fun j => f (i + 1 + j)) n := fun j hj => h _ (by omega)
    exact (ev_any hd (by omega) x).symm
  rw [cv_xm]
  funext i
  cases i with
  | zero =>
    show f 0 = (0 - x) * dq f x n 0 + 0 + ev f x (n + 1)
    have := step 0
    have e : (fun j => f (0 + j)) = f := funext fun j => by rw [Nat.zero_add]
    rw [e] at this
    rw [this]; grind
  | succ i =>
    show f (i + 1) = (0 - x) * dq f x n (i + 1) + dq f x n i + 0
    rw [same i, step (i + 1)]; grind
/-- A polynomial with at most as many coefficients as it has different zeros is zero. -/
theorem zeros (h : Fld q) : ∀ (xs : List (Fin q)) (f : Nat → Fin q), xs.Nodup → Deg f xs.length → (∀ x ∈ xs, ev f x xs.length = 0) → f = ze
  | [], f, _, hd, _ => hd.zero
  | x :: xs, f, hn, hd, hz => by
    have hd' : Deg f (xs.length + 1) := hd
    have h1 := dq_step hd' x
    have hx : ev f x (xs.length + 1) = 0 := hz x (by simp)
    rw [hx] at h1
    have hq := dq_deg hd' x
    have e0 : ad (cv (xm x) (dq f x xs.length)) (co 0) = cv (xm x) (dq f x xs.length) := by
      funext i
      cases i with
      | zero => show _ + 0 = _; grind
      | succ i => show _ + 0 = _; grind
    rw [e0] at h1
    have hd0 : dq f x xs.length = ze := by
      refine zeros h xs _ (List.nodup_cons.1 hn).2 hq fun y hy => ?_
      have hy2 : ev f y (xs.length + 1) = 0 := hz y (by simp [hy])
      have h2 := ev_cv (xm_deg x) hq y
      rw [← h1, ev_any hd' (by omega), hy2] at h2
      have h3 : ev (xm x) y 2 = y - x := by
        show 0 - x + y * (1 + y * 0) = y - x; grind
      rw [h3] at h2
      rcases h.no h2.symm with h4 | h4
      · exfalso
        have : y = x := by grind
        subst this
        exact (List.nodup_cons.1 hn).1 hy
      · exact h4
    rw [h1, hd0, cv_comm]
    exact funext (cv_ze_l _)
end Go.Proofs.Ytdcdaclkeocfpaa.Po
