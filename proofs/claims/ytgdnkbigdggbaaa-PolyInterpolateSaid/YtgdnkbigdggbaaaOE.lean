/- What the rounds of package poly's divide keep. -/
import Derived.Test.YtgdnkbigdggbaaaOC
import Derived.Test.YtgdnkbigdggbaaaRefS
namespace Go.Proofs.Ytgdnkbigdggbaaa
open Go.RowKit

/-- When k of N rounds are over: the quotient so far, and what is left. -/
structure DivM (p : Int) (A Bl : List Int) (N k : Nat) (q a : List Int) : Prop where
  sum : Po.ad (Po.cv (pf p q) (pf p Bl)) (pf p a) = pf p A
  zeros : ∀ j, j < N - k → q.getD j 0 = 0
  red : ∀ y ∈ q, 0 ≤ y ∧ y < p
  top : 0 < k → q.getD (N - 1) 0 ≠ 0
  first : k = 0 → a = A
  lq : q.length = N

theorem ml_bd {p : Int} (hk : known p = true) (a b : Int) : 0 ≤ ml p a b ∧ ml p a b < p := by
  rw [ml, if_pos hk]
  have := known_lo hk
  exact ⟨Int.emod_nonneg _ (by omega), Int.emod_lt_of_pos _ (by omega)⟩
theorem DivM.start {p : Int} (hk : known p = true) (A Bl : List Int) (N : Nat) : DivM p A Bl N 0 (List.replicate N 0) A where
  sum := by rw [pf_zeros hk, Po.ze_cv, Po.ze_ad]
  zeros := fun j hj => by rw [getD_lt _ (by simp; omega)]; simp
  red := fun y hy => by rw [(List.mem_replicate.1 hy).2]; have := known_lo hk; omega
  top := fun h => by omega
  first := fun _ => rfl
  lq := by simp
theorem pf_set {p : Int} {q : List Int} {i : Nat} (hi : i < q.length) (h0 : q.getD i 0 = 0) (c : Int) (hk : known p = true) : pf p (q.set i c) = Po.ad (pf p q) (Po.shn i (Po.co (ph p c))) := funext fun j => by
  show ph p _ = ph p _ + _
  rcases Nat.lt_trichotomy j i with h | rfl | h
  · rw [Po.shn_low _ _ _ h]
    have e : (q.set i c).getD j 0 = q.getD j 0 := by rw [getD_lt _ (by simp; omega), getD_lt _ (by omega), List.getElem_set_ne (by omega)]
    rw [e]; grind
  · have e : (q.set j c).getD j 0 = c := by rw [getD_lt _ (by simp; omega), List.getElem_set_self]
    have e2 := Po.shn_at (Po.co (ph p c)) j 0
    rw [Nat.add_zero] at e2
    rw [e, e2, h0, ph_zero hk]
    show _ = 0 + ph p c
    grind
  · obtain ⟨d, rfl⟩ : ∃ d, j = i + (d + 1) := ⟨j - i - 1, by omega⟩
    rw [Po.shn_at]
    have e : (q.set i c).getD (i + (d + 1)) 0 = q.getD (i + (d + 1)) 0 := by
      rcases Nat.lt_or_ge (i + (d + 1)) q.length with h | h
      · rw [getD_lt _ (by simp; omega), getD_lt _ h, List.getElem_set_ne (by omega)]
      · rw [getD_ge _ (by simp; omega), getD_ge _ h]
    rw [e]
    show _ = _ + (0 : Fin (Q p))
    grind
theorem pf_less {p : Int} (hk : known p = true) (a : List Int) {n : Nat} (h : Po.Deg (pf p a) n) : pf p (a.take n) = pf p a := funext fun i => by
  rcases Nat.lt_or_ge i n with h1 | h1
  · show ph p _ = ph p _
    congr 1
    rcases Nat.lt_or_ge i a.length with h2 | h2
    · rw [getD_lt _ (by simp; omega), getD_lt _ h2, List.getElem_take]
    · rw [getD_ge _ (by simp; omega), getD_ge _ h2]
  · rw [h i h1]
    show ph p _ = 0
    rw [getD_ge _ (by simp; omega), ph_zero hk]
theorem ml_unit {p a b : Int} (hk : known p = true) (hb0 : 0 ≤ b) (hb : b % p ≠ 0) (ha : a % p ≠ 0) : ml p a (iv p b) ≠ 0 := fun h => by
  have h1 := ph_iv hk hb0 hb
  have h2 := ph_ml hk a (iv p b)
  rw [h, ph_zero hk] at h2
  refine ha ((ph_eq_zero hk a).1 ?_)
  have : ph p a = ph p a * (ph p (iv p b) * ph p b) := by rw [h1]; grind
  rw [this]
  have h3 : ph p a * (ph p (iv p b) * ph p b) = (ph p a * ph p (iv p b)) * ph p b := by grind
  rw [h3, ← h2]
  grind
theorem DivM.step {p : Int} (hk : known p = true) {A Bl q a : List Int} {N k n m : Nat} (hA : NF p A) (h : DivM p A Bl N k q a) (hkN : k < N) (hn : n = N - 1 - k) (hBl : Bl.length = m + 1) (hb0 : 0 ≤ Bl[m]) (hb : Bl[m] % p ≠ 0) (ha : a.length = n + m + 1) :
    DivM p A Bl N (k + 1) (q.set n (ml p a[n + m] (iv p Bl[m]))) ((updK (addL p (sb p 0 (ml p a[n + m] (iv p Bl[m]))) a Bl n) a n Bl.length).take (n + m)) := by
  obtain ⟨c, hc⟩ : ∃ c, c = ml p a[n + m] (iv p Bl[m]) := ⟨_, rfl⟩
  have hlq := h.lq
  rw [← hc]
  have hcb : ph p c * ph p Bl[m] = ph p a[n + m] := by
    have h1 := ph_iv hk hb0 hb
    rw [hc, ph_ml hk]
    have : ph p a[n + m] * ph p (iv p Bl[m]) * ph p Bl[m] = ph p a[n + m] * (ph p (iv p Bl[m]) * ph p Bl[m]) := by grind
    rw [this, h1]; grind
  have hr := Po.div_round (n := n) (c := ph p c) h.sum (by rw [← hBl]; exact pf_deg hk Bl) (by rw [← ha]; exact pf_deg hk a) (by rw [pf_at Bl (by omega), pf_at a (by omega)]; exact hcb)
  have hq : pf p (q.set n c) = Po.ad (pf p q) (Po.shn n (Po.co (ph p c))) := pf_set (by omega) (h.zeros n (by omega)) c hk
  have hupd : pf p (updK (addL p (sb p 0 c) a Bl n) a n Bl.length) = Po.sb (pf p a) (Po.cv (Po.shn n (Po.co (ph p c))) (pf p Bl)) := by
    rw [pf_addL hk _ _ _ _ (by omega), Po.cv_shn, Po.cv_co]
    funext i
    show _ + _ = _ - _
    rcases Nat.lt_or_ge i n with h1 | h1
    · rw [Po.shn_low _ _ _ h1, Po.shn_low _ _ _ h1]; grind
    · obtain ⟨j, rfl⟩ : ∃ j, i = n + j := ⟨i - n, by omega⟩
      rw [Po.shn_at, Po.shn_at]
      show _ + ph p _ * _ = _ - _ * _
      rw [ph_sb hk, ph_zero hk]; grind
  refine ⟨?_, fun j hj => ?_, fun y hy => ?_, fun _ => ?_, fun h0 => by omega, by simpa using hlq⟩
  · rw [pf_less hk _ (by rw [hupd]; exact hr.2), hupd, hq]
    exact hr.1
  · have hj2 : j < n := by omega
    rw [getD_lt _ (by simp; omega), List.getElem_set_ne (by omega), ← getD_lt _ (by omega)]
    exact h.zeros j (by omega)
  · rcases List.mem_or_eq_of_mem_set hy with hy | rfl
    · exact h.red y hy
    · rw [hc]; exact ml_bd hk _ _
  · by_cases h0 : k = 0
    · have e := h.first h0
      have hn1 : N - 1 = n := by omega
      rw [hn1, getD_lt _ (by simp; omega), List.getElem_set_self, hc]
      refine ml_unit hk hb0 hb ?_
      subst e
      have := last_ne hA (n := n + m) ha
      exact this
    · rw [getD_lt _ (by simp; omega), List.getElem_set_ne (by omega), ← getD_lt _ (by omega)]
      exact h.top (by omega)
/-- What the division comes to. -/
theorem DivM.done {p : Int} (hk : known p = true) {A Bl q a : List Int} {N m : Nat} (h : DivM p A Bl N N q a) (hBl : Bl.length = m + 1) (hb : Bl[m] % p ≠ 0) (ha : a.length ≤ m) :
    NF p q ∧ Po.DivOf (pf p A) (pf p Bl) (pf p q) (pf p a) := by
  refine ⟨⟨h.red, fun hne h0 => ?_⟩, h.sum, m, by rw [← hBl]; exact pf_deg hk Bl, ?_, (pf_deg hk a).mono ha⟩
  · have hl := h.lq
    have hp : 0 < q.length := List.length_pos_iff.2 hne
    rw [List.getLast_eq_getElem] at h0
    refine h.top (by omega) ?_
    rw [getD_lt _ (by omega), ← h0]
    congr 1; omega
  · rw [pf_at Bl (by omega)]
    exact fun e => hb ((ph_eq_zero hk _).1 e)
end Go.Proofs.Ytgdnkbigdggbaaa
