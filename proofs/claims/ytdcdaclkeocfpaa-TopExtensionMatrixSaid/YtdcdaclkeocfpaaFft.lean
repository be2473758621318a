/- Powers, sums, primitive roots of unity: the values at the points of a domain, and back. The transform of twice the length out of two of half the length; the order of reversed bits. -/
import Derived.Test.YtdcdaclkeocfpaaPolyG
namespace Go.Proofs.Ytdcdaclkeocfpaa
namespace Po
variable {q : Nat} [NeZero q]

theorem pwF_zero (x : Fin q) : pwF x 0 = 1 := rfl
theorem pwF_succ (x : Fin q) (n : Nat) : pwF x (n + 1) = pwF x n * x := rfl
theorem pwF_add (x : Fin q) (m n : Nat) : pwF x (m + n) = pwF x m * pwF x n := by
  induction n with
  | zero => rw [Nat.add_zero, pwF_zero]; grind
  | succ n ih => rw [← Nat.add_assoc, pwF_succ, ih, pwF_succ]; grind
theorem pwF_mulx (x y : Fin q) (n : Nat) : pwF (x * y) n = pwF x n * pwF y n := by
  induction n with
  | zero => simp only [pwF_zero]; grind
  | succ n ih => rw [pwF_succ, ih, pwF_succ, pwF_succ]; grind
theorem pwF_one (n : Nat) : pwF (1 : Fin q) n = 1 := by
  induction n with
  | zero => rfl
  | succ n ih => rw [pwF_succ, ih]; grind
theorem pwF_pow (x : Fin q) (m n : Nat) : pwF x (m * n) = pwF (pwF x m) n := by
  induction n with
  | zero => rfl
  | succ n ih => rw [Nat.mul_succ, pwF_add, ih, pwF_succ]
theorem pwF_comm (x : Fin q) (m n : Nat) : pwF (pwF x m) n = pwF (pwF x n) m := by rw [← pwF_pow, ← pwF_pow, Nat.mul_comm]

/-- The sum of the first n. -/
def sm (f : Nat → Fin q) : Nat → Fin q
  | 0 => 0
  | n + 1 => sm f n + f n
theorem sm_congr {f g : Nat → Fin q} : ∀ {n : Nat}, (∀ i, i < n → f i = g i) → sm f n = sm g n
  | 0, _ => rfl
  | n + 1, h => by rw [sm, sm, sm_congr fun i hi => h i (by omega), h n (by omega)]
theorem sm_mul (c : Fin q) (f : Nat → Fin q) : ∀ n, sm (fun i => c * f i) n = c * sm f n
  | 0 => by show (0 : Fin q) = c * 0; grind
  | n + 1 => by rw [sm, sm_mul c f n, sm]; grind
theorem sm_add (f g : Nat → Fin q) : ∀ n, sm (fun i => f i + g i) n = sm f n + sm g n
  | 0 => by show (0 : Fin q) = 0 + 0; grind
  | n + 1 => by rw [sm, sm_add f g n, sm, sm]; grind
theorem sm_zero : ∀ n, sm (fun _ => (0 : Fin q)) n = 0
  | 0 => rfl
  | n + 1 => by rw [sm, sm_zero n]; grind
theorem sm_swap (f : Nat → Nat → Fin q) (m : Nat) : ∀ n, sm (fun i => sm (f i) m) n = sm (fun k => sm (fun i => f i k) n) m
  | 0 => (sm_zero m).symm
  | n + 1 => by
    rw [sm, sm_swap f m n, ← sm_add]
    exact sm_congr fun k _ => rfl
theorem sm_single {f : Nat → Fin q} {k : Nat} : ∀ {n : Nat}, k < n → (∀ i, i < n → i ≠ k → f i = 0) → sm f n = f k
  | 0, hk, _ => by omega
  | n + 1, hk, h => by
    rw [sm]
    by_cases e : n = k
    · subst e
      have : sm f n = 0 := by rw [sm_congr (g := fun _ => 0) fun i hi => h i (by omega) (by omega), sm_zero]
      rw [this]; grind
    · rw [sm_single (by omega) fun i hi => h i (by omega), h n (by omega) e]; grind
theorem ev_sm (f : Nat → Fin q) (x : Fin q) : ∀ n, ev f x n = sm (fun i => f i * pwF x i) n
  | 0 => rfl
  | n + 1 => by rw [ev_snoc, ev_sm f x n]; rfl
theorem geo (z : Fin q) (n : Nat) : (z - 1) * sm (pwF z) n = pwF z n - 1 := by
  induction n with
  | zero => show (z - 1) * 0 = 1 - 1; grind
  | succ n ih =>
    have : (z - 1) * (sm (pwF z) n + pwF z n) = (z - 1) * sm (pwF z) n + (z - 1) * pwF z n := by grind
    rw [sm, this, ih, pwF_succ]; grind

/-- w has the order n. -/
def Prim (w : Fin q) (n : Nat) : Prop := pwF w n = 1 ∧ ∀ d, 0 < d → d < n → pwF w d ≠ 1
theorem geo_zero (h : Fld q) {z : Fin q} {n : Nat} (hz : z ≠ 1) (hn : pwF z n = 1) : sm (pwF z) n = 0 := by
  have h1 := geo z n
  rw [hn] at h1
  rcases h.no (h1.trans (by grind : (1 : Fin q) - 1 = 0)) with h2 | h2
  · exact absurd (by grind : z = 1) hz
  · exact h2
theorem Prim.pow {w : Fin q} {n : Nat} (h : Prim w n) (k : Nat) : pwF (pwF w k) n = 1 := by rw [pwF_comm, h.1, pwF_one]
/-- A power of two whose half is -1. -/
theorem prim_two (h2 : (0 - 1 : Fin q) ≠ 1) : ∀ (k : Nat) (w : Fin q), pwF w (2 ^ k) = 0 - 1 → Prim w (2 ^ (k + 1)) := by
  have odd1 : ∀ e, pwF (0 - 1 : Fin q) (2 * e + 1) = 0 - 1 := fun e => by
    rw [pwF_succ, pwF_pow]
    have : pwF (0 - 1 : Fin q) 2 = 1 := by show (1 * (0 - 1)) * (0 - 1) = (1 : Fin q); grind
    rw [this, pwF_one]; grind
  intro k
  induction k with
  | zero =>
    intro w hw
    have hw1 : w = 0 - 1 := by
      have : pwF w (2 ^ 0) = w := by show 1 * w = w; grind
      rw [← this]; exact hw
    refine ⟨?_, fun d h0 hd => ?_⟩
    · rw [hw1]; show (1 * (0 - 1)) * (0 - 1) = (1 : Fin q); grind
    · obtain rfl : d = 1 := by simp at hd; omega
      rw [hw1]; intro e
      have e2 : (1 : Fin q) * (0 - 1) = 1 := e
      exact h2 (by grind)
  | succ k ih =>
    intro w hw
    have hs : pwF (pwF w 2) (2 ^ k) = 0 - 1 := by rw [← pwF_pow, ← Nat.pow_succ']; exact hw
    have h1 := ih (pwF w 2) hs
    refine ⟨?_, fun d h0 hd e => ?_⟩
    · have := h1.1
      rw [← pwF_pow, ← Nat.pow_succ'] at this; exact this
    · rcases Nat.mod_two_eq_zero_or_one d with he | ho
      · have hd2 : d = 2 * (d / 2) := by omega
        rw [hd2, pwF_pow] at e
        exact h1.2 (d / 2) (by omega) (by rw [Nat.pow_succ] at hd; omega) e
      · have hd2 : d = 2 * (d / 2) + 1 := by omega
        have e1 : pwF (pwF w (2 ^ (k + 1))) d = 1 := by rw [pwF_comm, e, pwF_one]
        rw [hw, hd2, odd1] at e1
        exact h2 e1
theorem Prim.ne {w : Fin q} {n : Nat} (h : Prim w n) {i j : Nat} (hi : i < j) (hj : j < n) (hw : ∃ u, w * u = 1) : pwF w i ≠ pwF w j := by
  intro e
  obtain ⟨u, hu⟩ := hw
  have h1 : pwF w j = pwF w i * pwF w (j - i) := by rw [← pwF_add]; congr 1; omega
  have h2 : pwF w i * pwF u i = 1 := by rw [← pwF_mulx, hu, pwF_one]
  refine h.2 (j - i) (by omega) (by omega) ?_
  have : pwF w (j - i) = (pwF w i * pwF u i) * pwF w (j - i) := by rw [h2]; grind
  rw [this]
  have h3 : pwF w i * pwF u i * pwF w (j - i) = pwF u i * (pwF w i * pwF w (j - i)) := by grind
  rw [h3, ← h1, ← e]
  have h4 : pwF u i * pwF w i = pwF w i * pwF u i := by grind
  rw [h4, h2]
theorem Prim.inv {w : Fin q} {n : Nat} (h : Prim w n) (hn : 0 < n) : w * pwF w (n - 1) = 1 := by
  have : pwF w n = pwF w (n - 1) * w := by rw [← pwF_succ]; congr 1; omega
  rw [h.1] at this
  rw [this]; grind

/-- The points of a domain. -/
def dom (s w : Fin q) (i : Nat) : Fin q := s * pwF w i
theorem dom_ne (h : Fld q) {s w : Fin q} {n : Nat} (hw : Prim w n) (hs : s ≠ 0) {i j : Nat} (hij : i < j) (hj : j < n) : dom s w i ≠ dom s w j := by
  intro e
  obtain ⟨t, ht⟩ := h s hs
  refine hw.ne hij hj ⟨_, hw.inv (by omega)⟩ ?_
  have h1 : ∀ x : Fin q, x = t * (s * x) := fun x => by
    have : t * (s * x) = (s * t) * x := by grind
    rw [this, ht]; grind
  rw [h1 (pwF w i), h1 (pwF w j)]
  exact congrArg (t * ·) e
def doms (s w : Fin q) (n : Nat) : List (Fin q) := (List.range n).map (dom s w)
theorem doms_nodup (h : Fld q) {s w : Fin q} {n : Nat} (hw : Prim w n) (hs : s ≠ 0) : (doms s w n).Nodup := by
  refine List.pairwise_iff_getElem.2 fun i j hi hj hij e => ?_
  simp only [doms, List.length_map, List.length_range] at hi hj
  simp only [doms, List.getElem_map, List.getElem_range] at e
  exact dom_ne h hw hs hij hj e
/-- Only one polynomial has given values there. -/
theorem dom_unique (h : Fld q) {s w : Fin q} {n : Nat} (hw : Prim w n) (hs : s ≠ 0) {f g : Nat → Fin q} (hf : Deg f n) (hg : Deg g n) (e : ∀ i, i < n → ev f (dom s w i) n = ev g (dom s w i) n) : f = g := by
  have hl : (doms s w n).length = n := by simp [doms]
  refine interp_unique h (doms_nodup h hw hs) (by rw [hl]; exact hf) (by rw [hl]; exact hg) fun x hx => ?_
  simp only [doms, List.mem_map, List.mem_range] at hx
  obtain ⟨i, hi, rfl⟩ := hx
  rw [hl]
  exact e i hi
/-- The inverse transform: from the values at the powers of w, in the reverse order, to values at the points of the domain. -/
theorem inverse (h : Fld q) {s t w ni : Fin q} {n : Nat} (hw : Prim w n) (hst : s * t = 1) (hni : ni * sm (fun _ => 1) n = 1) (v : Nat → Fin q) {k : Nat} (hk : k < n) :
    ev (fun i => (ev v (pwF w ((n - i) % n)) n) * (ni * pwF t i)) (dom s w k) n = v k := by
  have hu : ∀ i, i < n → pwF w ((n - i) % n) * pwF w i = 1 := fun i hi => by
    rw [← pwF_add]
    rcases Nat.eq_zero_or_pos i with rfl | h0
    · rw [Nat.sub_zero, Nat.mod_self]; rfl
    · rw [Nat.mod_eq_of_lt (by omega), show n - i + i = n by omega]; exact hw.1
  have h1 : ∀ i, i < n → (ev v (pwF w ((n - i) % n)) n) * (ni * pwF t i) * pwF (dom s w k) i = ni * sm (fun m => v m * (pwF (pwF w ((n - i) % n)) m * pwF (pwF w k) i)) n := fun i hi => by
    have e1 : pwF (dom s w k) i = pwF s i * pwF (pwF w k) i := pwF_mulx _ _ _
    have e2 : pwF s i * pwF t i = 1 := by rw [← pwF_mulx, hst, pwF_one]
    have e3 : sm (fun m => v m * (pwF (pwF w ((n - i) % n)) m * pwF (pwF w k) i)) n = pwF (pwF w k) i * ev v (pwF w ((n - i) % n)) n := by
      rw [ev_sm, ← sm_mul]; exact sm_congr fun m _ => by grind
    rw [e1, e3]
    have : ∀ a b c d e : Fin q, d * c = 1 → a * (b * c) * (d * e) = b * (e * a) := fun a b c d e h => by
      have : a * (b * c) * (d * e) = (d * c) * (b * (e * a)) := by grind
      rw [this, h]; grind
    exact this _ _ _ _ _ e2
  rw [ev_sm, sm_congr h1, sm_mul, sm_swap]
  have h2 : ∀ m, m < n → m ≠ k → sm (fun i => v m * (pwF (pwF w ((n - i) % n)) m * pwF (pwF w k) i)) n = 0 := fun m hm hmk => by
    rw [sm_mul]
    have hz : sm (fun i => pwF (pwF w ((n - i) % n)) m * pwF (pwF w k) i) n = 0 := by
      rcases Nat.lt_or_gt_of_ne hmk with hlt | hgt
      · have : ∀ i, i < n → pwF (pwF w ((n - i) % n)) m * pwF (pwF w k) i = pwF (pwF w (k - m)) i := fun i hi => by
          have e1 : pwF (pwF w k) i = pwF (pwF w (k - m)) i * pwF (pwF w i) m := by
            rw [pwF_comm w k i, pwF_comm w (k - m) i, ← pwF_add]; congr 1; omega
          have e2 : pwF (pwF w ((n - i) % n)) m * pwF (pwF w i) m = 1 := by rw [← pwF_mulx, hu i hi, pwF_one]
          rw [e1]
          have : ∀ a b c : Fin q, a * c = 1 → a * (b * c) = b := fun a b c h => by
            have : a * (b * c) = (a * c) * b := by grind
            rw [this, h]; grind
          exact this _ _ _ e2
        rw [sm_congr this]
        exact geo_zero h (hw.2 (k - m) (by omega) (by omega)) (hw.pow _)
      · have : ∀ i, i < n → pwF (pwF w ((n - i) % n)) m * pwF (pwF w k) i = pwF (pwF w (n - (m - k))) i := fun i hi => by
          have e1 : pwF (pwF w ((n - i) % n)) m = pwF (pwF w ((n - i) % n)) (m - k) * pwF (pwF w ((n - i) % n)) k := by rw [← pwF_add]; congr 1; omega
          have e2 : pwF (pwF w ((n - i) % n)) k * pwF (pwF w i) k = 1 := by rw [← pwF_mulx, hu i hi, pwF_one]
          have e3 : pwF (pwF w ((n - i) % n)) (m - k) * pwF (pwF w i) (m - k) = 1 := by rw [← pwF_mulx, hu i hi, pwF_one]
          have e4 : pwF (pwF w (n - (m - k))) i * pwF (pwF w i) (m - k) = 1 := by
            rw [pwF_comm w (n - (m - k)) i, ← pwF_add, show n - (m - k) + (m - k) = n by omega]; exact hw.pow i
          rw [e1, pwF_comm w k i]
          have : ∀ a b c d e : Fin q, b * c = 1 → a * d = 1 → e * d = 1 → a * b * c = e := fun a b c d e h1 h2 h3 => by
            have x1 : a * b * c = a * (b * c) := by grind
            have x2 : a = a * (e * d) := by rw [h3]; grind
            have x3 : a * (e * d) = e * (a * d) := by grind
            rw [x1, h1, x2, x3, h2]; grind
          exact this _ _ _ _ _ e2 e3 e4
        rw [sm_congr this]
        exact geo_zero h (hw.2 _ (by omega) (by omega)) (hw.pow _)
    rw [hz]; grind
  rw [sm_single hk h2, sm_mul]
  have h3 : sm (fun i => pwF (pwF w ((n - i) % n)) k * pwF (pwF w k) i) n = sm (fun _ => 1) n := sm_congr fun i hi => by
    rw [pwF_comm w k i, ← pwF_mulx, hu i hi, pwF_one]
  rw [h3]
  have : ni * (v k * sm (fun _ => 1) n) = (ni * sm (fun _ => 1) n) * v k := by grind
  rw [this, hni]; grind
end Po
end Go.Proofs.Ytdcdaclkeocfpaa

namespace Go.Proofs.Ytdcdaclkeocfpaa
namespace Po
variable {q : Nat} [NeZero q]

/-- The values of f's elements o, o + t, o + 2t, .. (m of them) at the powers of w. -/
def vl (f : Nat → Fin q) (w : Fin q) (m o t k : Nat) : Fin q := sm (fun i => f (o + i * t) * pwF w (i * k)) m
theorem vl_one (f : Nat → Fin q) (w : Fin q) (o t k : Nat) : vl f w 1 o t k = f o := by
  show 0 + f (o + 0 * t) * pwF w (0 * k) = f o
  rw [Nat.zero_mul, Nat.zero_mul, pwF_zero, Nat.add_zero]; grind
theorem vl_ev (f : Nat → Fin q) (w : Fin q) (m k : Nat) : vl f w m 0 1 k = ev f (pwF w k) m := by
  rw [ev_sm]
  refine sm_congr fun i _ => ?_
  rw [Nat.zero_add, Nat.mul_one, Nat.mul_comm i k, pwF_pow]
theorem sm_even_odd (g : Nat → Fin q) : ∀ h, sm g (2 * h) = sm (fun i => g (2 * i)) h + sm (fun i => g (2 * i + 1)) h
  | 0 => by show (0 : Fin q) = 0 + 0; grind
  | h + 1 => by
    rw [show 2 * (h + 1) = 2 * h + 1 + 1 by omega, sm, sm, sm_even_odd g h, sm, sm]; grind
theorem sm_halves (g : Nat → Fin q) (h : Nat) : ∀ n, sm g (h + n) = sm g h + sm (fun i => g (h + i)) n
  | 0 => by show sm g h = sm g h + 0; grind
  | n + 1 => by rw [← Nat.add_assoc, sm, sm_halves g h n, sm]; grind
/-- By the parity of the index: the first half of the values. -/
theorem vl_lo (f : Nat → Fin q) (w : Fin q) (h o t k : Nat) : vl f w (2 * h) o t k = vl f (pwF w 2) h o (2 * t) k + pwF w k * vl f (pwF w 2) h (o + t) (2 * t) k := by
  unfold vl
  rw [sm_even_odd, ← sm_mul]
  congr 1
  · refine sm_congr fun i _ => ?_
    rw [← pwF_pow, show 2 * i * t = i * (2 * t) by rw [Nat.mul_comm 2 i, Nat.mul_assoc], show 2 * i * k = 2 * (i * k) by rw [Nat.mul_assoc]]
  · refine sm_congr fun i _ => ?_
    rw [← pwF_pow, show o + (2 * i + 1) * t = o + t + i * (2 * t) by rw [Nat.add_mul, Nat.one_mul, Nat.mul_comm 2 i, Nat.mul_assoc]; omega, show (2 * i + 1) * k = k + 2 * (i * k) by rw [Nat.add_mul, Nat.one_mul, Nat.mul_assoc]; omega, pwF_add]
    grind
theorem pwF_half {w : Fin q} {h : Nat} (hw : pwF w h = 0 - 1) (k : Nat) : pwF w (k + h) = 0 - pwF w k := by rw [pwF_add, hw]; grind
theorem pwF_sq_half {w : Fin q} {h : Nat} (hw : pwF w h = 0 - 1) (i k : Nat) : pwF (pwF w 2) (i * (k + h)) = pwF (pwF w 2) (i * k) := by
  have h1 : pwF (pwF w 2) h = 1 := by
    rw [pwF_comm, hw]; show (1 * (0 - 1)) * (0 - 1) = (1 : Fin q); grind
  rw [Nat.mul_add, pwF_add, Nat.mul_comm i h, pwF_pow _ h i, h1, pwF_one]; grind
theorem vl_again {w : Fin q} {h : Nat} (hw : pwF w h = 0 - 1) (f : Nat → Fin q) (o t k : Nat) : vl f (pwF w 2) h o t (k + h) = vl f (pwF w 2) h o t k := by
  unfold vl
  exact sm_congr fun i _ => by rw [pwF_sq_half hw]
/-- The second half of the values. -/
theorem vl_hi {w : Fin q} {h : Nat} (hw : pwF w h = 0 - 1) (f : Nat → Fin q) (o t k : Nat) : vl f w (2 * h) o t (k + h) = vl f (pwF w 2) h o (2 * t) k - pwF w k * vl f (pwF w 2) h (o + t) (2 * t) k := by
  rw [vl_lo, vl_again hw, vl_again hw, pwF_half hw]; grind
/-- By the parity of the place: sums and differences of the halves. -/
theorem vl_even {w : Fin q} {h : Nat} (hw : pwF w h = 0 - 1) (f : Nat → Fin q) (k : Nat) : vl f w (2 * h) 0 1 (2 * k) = vl (fun i => f i + f (h + i)) (pwF w 2) h 0 1 k := by
  unfold vl
  rw [show 2 * h = h + h by omega, sm_halves, ← sm_add]
  refine sm_congr fun i _ => ?_
  have h1 : pwF w (2 * h) = 1 := by rw [Nat.mul_comm, pwF_pow, hw]; show (1 * (0 - 1)) * (0 - 1) = (1 : Fin q); grind
  have h2 : pwF w ((h + i) * (2 * k)) = pwF w (i * (2 * k)) := by
    rw [Nat.add_mul, pwF_add, show h * (2 * k) = 2 * h * k by rw [← Nat.mul_assoc, Nat.mul_comm h 2], pwF_pow, h1, pwF_one]; grind
  rw [Nat.zero_add, Nat.zero_add, Nat.mul_one, Nat.mul_one, h2, ← pwF_pow, show i * (2 * k) = 2 * (i * k) by rw [Nat.mul_left_comm]]
  grind
theorem vl_odd {w : Fin q} {h : Nat} (hw : pwF w h = 0 - 1) (f : Nat → Fin q) (k : Nat) : vl f w (2 * h) 0 1 (2 * k + 1) = vl (fun i => (f i - f (h + i)) * pwF w i) (pwF w 2) h 0 1 k := by
  unfold vl
  rw [show 2 * h = h + h by omega, sm_halves, ← sm_add]
  refine sm_congr fun i _ => ?_
  have h1 : pwF w (2 * h) = 1 := by rw [Nat.mul_comm, pwF_pow, hw]; show (1 * (0 - 1)) * (0 - 1) = (1 : Fin q); grind
  have h3 : ∀ j, pwF w (j * (2 * k + 1)) = pwF w j * pwF w (2 * (j * k)) := fun j => by
    rw [← pwF_add]; congr 1; rw [Nat.mul_add, Nat.mul_one, Nat.mul_left_comm]; omega
  have h2 : pwF w (2 * ((h + i) * k)) = pwF w (2 * (i * k)) := by
    rw [Nat.add_mul, Nat.mul_add, pwF_add, show 2 * (h * k) = 2 * h * k by rw [Nat.mul_assoc], pwF_pow _ (2 * h) k, h1, pwF_one]; grind
  rw [Nat.zero_add, Nat.zero_add, Nat.mul_one, Nat.mul_one, h3, h3, h2, ← pwF_pow, pwF_add w h i, hw]
  grind
end Po

/-- The b lowest bits in the other order. -/
def rev : Nat → Nat → Nat
  | 0, _ => 0
  | b + 1, j => 2 ^ b * (j % 2) + rev b (j / 2)
theorem rev_even (b j : Nat) : rev (b + 1) (2 * j) = rev b j := by
  rw [rev, show 2 * j % 2 = 0 by omega, show 2 * j / 2 = j by omega]; simp
theorem rev_odd (b j : Nat) : rev (b + 1) (2 * j + 1) = rev b j + 2 ^ b := by
  rw [rev, show (2 * j + 1) % 2 = 1 by omega, show (2 * j + 1) / 2 = j by omega]; omega
theorem rev_lt : ∀ b j, rev b j < 2 ^ b
  | 0, _ => by simp [rev]
  | b + 1, j => by
    have := rev_lt b (j / 2)
    rw [rev, Nat.pow_succ]
    rcases Nat.mod_two_eq_zero_or_one j with e | e <;> rw [e] <;> omega
theorem rev_top : ∀ b {j c : Nat}, j < 2 ^ b → c < 2 → rev (b + 1) (j + 2 ^ b * c) = 2 * rev b j + c
  | 0, j, c, hj, hc => by
    obtain rfl : j = 0 := by simp at hj; exact hj
    simp [rev]; omega
  | b + 1, j, c, hj, hc => by
    have hp : 2 ^ (b + 1) * c = 2 * (2 ^ b * c) := by rw [Nat.pow_succ, Nat.mul_comm (2 ^ b) 2, Nat.mul_assoc]
    have e1 : (j + 2 ^ (b + 1) * c) % 2 = j % 2 := by omega
    have e2 : (j + 2 ^ (b + 1) * c) / 2 = j / 2 + 2 ^ b * c := by omega
    rw [rev, e1, e2, rev_top b (by rw [Nat.pow_succ] at hj; omega) hc, rev]
    rw [Nat.pow_succ, Nat.mul_comm (2 ^ b) 2, Nat.mul_assoc]
    omega
/-- Twice is nothing. -/
theorem rev_rev : ∀ b {j : Nat}, j < 2 ^ b → rev b (rev b j) = j
  | 0, j, hj => by
    obtain rfl : j = 0 := by simp at hj; exact hj
    rfl
  | b + 1, j, hj => by
    have h1 : rev (b + 1) j = rev b (j / 2) + 2 ^ b * (j % 2) := by rw [rev]; omega
    rw [h1, rev_top b (rev_lt b _) (by omega), rev_rev b (by rw [Nat.pow_succ] at hj; omega)]
    omega
end Go.Proofs.Ytdcdaclkeocfpaa
