/- The walks of package poly's extended, addMultiple, Add, Sub, Scale. -/
import Derived.Test.YtnmbggdfcgbniaaOA
import Derived.Test.YtnmbggdfcgbniaaPolyG
import Derived.Laws.CopyOwn
namespace Go.Proofs.Ytnmbggdfcgbniaa
open Go.RowKit Go.BigFrame

/-- With zeros at the end, up to n elements. -/
def extL (l : List Int) (n : Nat) : List Int := l ++ List.replicate (n - l.length) 0
theorem extL_len (l : List Int) (n : Nat) : (extL l n).length = max l.length n := by simp [extL]; omega
theorem extL_getD (l : List Int) (n i : Nat) : (extL l n).getD i 0 = l.getD i 0 := by
  rcases Nat.lt_or_ge i l.length with h | h
  · rw [getD_lt _ h, getD_lt _ (by rw [extL_len]; omega)]
    simp [extL, List.getElem_append_left h]
  · rw [getD_ge l h]
    rcases Nat.lt_or_ge i (extL l n).length with h2 | h2
    · rw [getD_lt _ h2]
      simp [extL, List.getElem_append_right h]
    · rw [getD_ge _ h2]
theorem Own.exact {w : World} {base g n : Nat} {l : List Int} (h : Own w base (.slice (some ⟨g, 0, none⟩) n n) l) : w.heap[g]? = some (.cells (vs l).toArray 22 (0, 0)) := by
  obtain rfl := h.len
  rcases h.row.2 with ⟨e, _⟩ | ⟨g', cap, cur, e, hb, hg, hn, hm, hs, ht⟩
  · cases e
  · obtain ⟨rfl, rfl⟩ : g = g' ∧ l.length = cap := by simp at e; exact e
    rw [hg, ← ht, List.take_of_length_le (by simp; omega)]
theorem own_of {w : World} {base g : Nat} {l : List Int} (hb : base ≤ g) (hg : w.heap[g]? = some (.cells (vs l).toArray 22 (0, 0))) (hl : l.length ≤ 1000000) (hu : Us l) : Own w base (.slice (some ⟨g, 0, none⟩) l.length l.length) l :=
  ⟨⟨by rw [vs_len]; omega, .inr ⟨g, l.length, _, rfl, hb, hg, Nat.le_refl _, by unfold maxLen; omega, by simp [vs], by rw [Nat.mul_one]; exact List.take_of_length_le (by simp [vs])⟩⟩, hu⟩

theorem splice_vs (l : List Int) (m : Nat) : splice (vs (List.replicate m 0)) 0 (vs l) = vs (extL l m) := by
  simp [splice, vs, extL]
theorem copy_src {w : World} {a0 : Option Addr} {c0 : Nat} {l : List Int} (h : Lst w (.slice a0 l.length c0) l) (hp : 0 < (vs l).length) : ∃ ad, a0 = some ad ∧ ∀ (j : Nat) (v : Value), (vs l)[j]? = some v → w.cell? (ad.add j) = some v := by
  rw [vs_len] at hp
  obtain ⟨b, o, c, e, _⟩ := h.cells 0 hp
  obtain ⟨rfl, rfl⟩ : a0 = some ⟨b, o, none⟩ ∧ c0 = c := by simp at e; exact e
  refine ⟨_, rfl, fun j v hj => ?_⟩
  have hjn : j < l.length := by have := (List.getElem?_eq_some_iff.1 hj).1; rwa [vs_len] at this
  rw [vs_at hjn] at hj
  cases hj
  obtain ⟨b1, o1, c1, e1, h1⟩ := h.cells j hjn
  cases e1
  rw [Go.WideShapes.add_plain]
  exact h1

/-- k elements from o on replaced. -/
def updK (f : Nat → Int) (L : List Int) (o k : Nat) : List Int := (List.range L.length).map fun i => if o ≤ i ∧ i < o + k then f i else L.getD i 0
theorem updK_len (f : Nat → Int) (L : List Int) (o k : Nat) : (updK f L o k).length = L.length := by simp [updK]
theorem updK_zero (f : Nat → Int) (L : List Int) (o : Nat) : updK f L o 0 = L := by
  refine List.ext_getElem (updK_len _ _ _ _) fun i h1 h2 => ?_
  simp only [updK, List.getElem_map, List.getElem_range]
  rw [if_neg (by omega), getD_lt _ h2]
theorem updK_at {f : Nat → Int} {L : List Int} {o k : Nat} (h : o + k < L.length) : (updK f L o k)[o + k]'(by rw [updK_len]; exact h) = L[o + k] := by
  simp only [updK, List.getElem_map, List.getElem_range]
  rw [if_neg (by omega), getD_lt _ h]
theorem updK_set {f : Nat → Int} {L : List Int} {o k : Nat} : (updK f L o k).set (o + k) (f (o + k)) = updK f L o (k + 1) := by
  refine List.ext_getElem (by simp [updK_len]) fun i h1 h2 => ?_
  rw [List.getElem_set]
  simp only [updK, List.getElem_map, List.getElem_range]
  by_cases hi : o + k = i
  · subst hi
    rw [if_pos rfl, if_pos (by omega)]
  · rw [if_neg hi]
    by_cases h3 : o ≤ i ∧ i < o + k
    · rw [if_pos h3, if_pos (by omega)]
    · rw [if_neg h3, if_neg (by omega)]
theorem updK_at0 {f : Nat → Int} {L : List Int} {k : Nat} (h : k < L.length) : (updK f L 0 k)[k]'(by rw [updK_len]; exact h) = L[k] := by
  simp only [updK, List.getElem_map, List.getElem_range]
  rw [if_neg (by omega), getD_lt _ h]
theorem updK_set0 {f : Nat → Int} {L : List Int} {k : Nat} : (updK f L 0 k).set k (f k) = updK f L 0 (k + 1) := by
  have h := updK_set (f := f) (L := L) (o := 0) (k := k)
  simp only [Nat.zero_add] at h
  exact h
theorem updK_getD (f : Nat → Int) (L : List Int) (o k i : Nat) : (updK f L o k).getD i 0 = if i < L.length ∧ o ≤ i ∧ i < o + k then f i else L.getD i 0 := by
  rcases Nat.lt_or_ge i L.length with h | h
  · rw [getD_lt _ (by rw [updK_len]; exact h)]
    simp only [updK, List.getElem_map, List.getElem_range]
    by_cases h3 : o ≤ i ∧ i < o + k
    · rw [if_pos h3, if_pos ⟨h, h3⟩]
    · rw [if_neg h3, if_neg (by omega)]
  · rw [getD_ge _ (by rw [updK_len]; exact h), getD_ge L h, if_neg (by omega)]
/-- What addMultiple leaves. -/
def addL (p m : Int) (L a : List Int) (o : Nat) : Nat → Int := fun i => ad p (L.getD i 0) (ml p (a.getD (i - o) 0) m)

theorem pf_upd {p : Int} (hk : known p = true) {op : Int → Int → Int} {g : Fin (Q p) → Fin (Q p) → Fin (Q p)} (hf : ∀ x y, ph p (op x y) = g (ph p x) (ph p y)) (h0 : ∀ x, g x 0 = x) (a b : List Int) :
    pf p (updK (fun i => op ((extL a b.length).getD i 0) (b.getD i 0)) (extL a b.length) 0 b.length) = fun i => g (pf p a i) (pf p b i) := funext fun i => by
  show ph p _ = g (ph p _) (ph p _)
  rw [updK_getD]
  have hl : b.length ≤ (extL a b.length).length := by rw [extL_len]; omega
  rcases Nat.lt_or_ge i b.length with h | h
  · rw [if_pos (by omega), hf, extL_getD]
  · rw [if_neg (by omega), extL_getD, getD_ge b h, ph_zero hk, h0]

theorem pf_zeros {p : Int} (hk : known p = true) (n : Nat) : pf p (List.replicate n 0) = Po.ze := funext fun i => by
  show ph p _ = 0
  rcases Nat.lt_or_ge i n with h | h
  · rw [getD_lt _ (by simpa using h), List.getElem_replicate, ph_zero hk]
  · rw [getD_ge _ (by simpa using h), ph_zero hk]
theorem pf_addL {p : Int} (hk : known p = true) (m : Int) (L a : List Int) (o : Nat) (h : o + a.length ≤ L.length) :
    pf p (updK (addL p m L a o) L o a.length) = Po.ad (pf p L) (Po.shn o (Po.sc (ph p m) (pf p a))) := funext fun i => by
  show ph p _ = ph p _ + _
  rw [updK_getD]
  rcases Nat.lt_or_ge i o with h1 | h1
  · rw [if_neg (by omega), Po.shn_low _ _ _ h1]; grind
  · obtain ⟨j, rfl⟩ : ∃ j, i = o + j := ⟨i - o, by omega⟩
    rw [Po.shn_at]
    show _ = ph p _ + ph p m * ph p _
    rcases Nat.lt_or_ge j a.length with h2 | h2
    · rw [if_pos (by omega)]
      unfold addL
      rw [ph_ad hk, ph_ml hk, show o + j - o = j by omega]
      grind
    · rw [if_neg (by omega), getD_ge a h2, ph_zero hk]; grind

end Go.Proofs.Ytnmbggdfcgbniaa
