/- What the rounds of package poly's Interpolate keep (Newton's way). -/
import Derived.Test.YtgdnkbigdggbaaaOH
import Derived.Test.YtgdnkbigdggbaaaRefU
namespace Go.Proofs.Ytgdnkbigdggbaaa
open Go.RowKit

structure NewM (p : Int) (xs ys : List Int) (k : Nat) (r s : List Int) : Prop where
  lr : r.length = k
  ls : s.length = k + 1
  van : pf p s = Po.van ((xs.take k).map (ph p))
  hit : ∀ j (hj : j < xs.length), j < k → Po.ev (pf p r) (ph p xs[j]) k = ph p (ys.getD j 0)
  diff : ∀ i, i < k → ∀ j, j < i → sb p (xs.getD i 0) (xs.getD j 0) ≠ 0
theorem NewM.start {p : Int} (hk : known p = true) (xs ys : List Int) : NewM p xs ys 0 [] [1] :=
  ⟨rfl, rfl, by rw [pf_one hk, ph_one hk]; rfl, fun j _ h => by omega, fun i h => by omega⟩
theorem ival_zero {p : Int} (hk : known p = true) (z : Fin (Q p)) : ival p z = 0 ↔ z = 0 := by
  constructor
  · intro h
    have := ph_ival hk z
    rw [h, ph_zero hk] at this
    exact this.symm
  · rintro rfl
    exact (ival_of (fun hk => ⟨⟨Int.le_refl _, by have := known_lo hk; omega⟩, ph_zero hk⟩) fun _ => rfl).symm
theorem ival_bd {p : Int} (hk : known p = true) (z : Fin (Q p)) : 0 ≤ ival p z ∧ ival p z < p := by
  unfold ival
  rw [if_pos hk]
  have := z.isLt
  have := q_eq hk
  omega
theorem NewM.value {p : Int} (hk : known p = true) {xs ys r s : List Int} {k : Nat} (h : NewM p xs ys k r s) (hkx : k < xs.length) :
    ival p (Po.ev (pf p s) (ph p xs[k]) s.length) = 0 ↔ ∃ j, j < k ∧ sb p (xs.getD k 0) (xs.getD j 0) = 0 := by
  have hzl : ((xs.take k).map (ph p)).length = k := by simp; omega
  rw [ival_zero hk, h.van, h.ls, show k + 1 = ((xs.take k).map (ph p)).length + 1 by omega, Po.van_ev (fld hk) _ _ (one_ne hk), List.mem_map]
  constructor
  · rintro ⟨x, hx, e⟩
    obtain ⟨j, hj, rfl⟩ := List.mem_take_iff_getElem.1 hx
    refine ⟨j, by omega, (sb_eq_zero hk _ _).2 ?_⟩
    rw [getD_lt _ hkx, getD_lt _ (by omega)]; exact e.symm
  · rintro ⟨j, hj, e⟩
    have := (sb_eq_zero hk _ _).1 e
    rw [getD_lt _ hkx, getD_lt _ (by omega)] at this
    exact ⟨xs[j], List.mem_take_iff_getElem.2 ⟨j, by omega, rfl⟩, this.symm⟩
theorem NewM.step {p : Int} (hk : known p = true) {xs ys r s : List Int} {k : Nat} (h : NewM p xs ys k r s) (hkx : k < xs.length) {v : Int} (hv : v = ival p (Po.ev (pf p s) (ph p xs[k]) s.length)) (hv0 : v ≠ 0) :
    NewM p xs ys (k + 1) (updK (addL p (ml p (sb p (ys.getD k 0) (ival p (Po.ev (pf p r) (ph p xs[k]) r.length))) (iv p v)) (r ++ [0]) s 0) (r ++ [0]) 0 s.length) (trL p xs[k] s) := by
  have hzl : ((xs.take k).map (ph p)).length = k := by simp; omega
  have hs0 : pf p (r ++ [0]) = pf p r := funext fun i => by show ph p _ = ph p _; rw [snoc_zero_getD]
  have hr1 := pf_addL hk (ml p (sb p (ys.getD k 0) (ival p (Po.ev (pf p r) (ph p xs[k]) r.length))) (iv p v)) (r ++ [0]) s 0 (by rw [h.ls, List.length_append, h.lr]; simp)
  rw [hs0] at hr1
  have hdr : ∀ y, Po.ev (pf p r) y (k + 1) = Po.ev (pf p r) y k := fun y => Po.ev_any (by have := pf_deg hk r; rwa [h.lr] at this) (by omega) y
  have hvb := ival_bd hk (Po.ev (pf p s) (ph p xs[k]) s.length)
  rw [← hv] at hvb
  have hphv : ph p v = Po.ev (pf p s) (ph p xs[k]) (k + 1) := by rw [hv, ph_ival hk, h.ls]
  have hinv := ph_iv hk (b := v) hvb.1 (by rw [Int.emod_eq_of_lt hvb.1 hvb.2]; exact hv0)
  refine ⟨by rw [updK_len, List.length_append, h.lr]; rfl, by rw [trL_len, h.ls], ?_, fun j hj hjk => ?_, fun i hi j hj => ?_⟩
  · rw [pf_trL hk, h.van, take_snoc hkx, List.map_append]
    exact (Po.van_snoc _ _).symm
  · rw [hr1]
    show Po.ev (Po.ad (pf p r) (Po.sc _ (pf p s))) _ (k + 1) = _
    rw [Po.ev_ad, Po.ev_sc, hdr]
    rcases Nat.lt_or_eq_of_le (Nat.le_of_lt_succ hjk) with h1 | rfl
    · have hz : Po.ev (pf p s) (ph p xs[j]) (k + 1) = 0 := by
        rw [h.van, show k + 1 = ((xs.take k).map (ph p)).length + 1 by omega, Po.van_ev (fld hk) _ _ (one_ne hk), List.mem_map]
        exact ⟨xs[j], List.mem_take_iff_getElem.2 ⟨j, by omega, rfl⟩, rfl⟩
      rw [hz, h.hit j hj h1]; grind
    · rw [← hphv, ph_ml hk, ph_sb hk, ph_ival hk, h.lr]
      have : ∀ a b c d : Fin (Q p), d * c = 1 → a + (b - a) * d * c = b := fun a b c d e => by
        have : (b - a) * d * c = (b - a) * (d * c) := by grind
        rw [this, e]; grind
      exact this _ _ _ _ hinv
  · rcases Nat.lt_or_eq_of_le (Nat.le_of_lt_succ hi) with h1 | rfl
    · exact h.diff i h1 j hj
    · intro e
      exact hv0 (by rw [hv]; exact (h.value hk hkx).2 ⟨j, hj, e⟩)
theorem NewM.done {p : Int} (hk : known p = true) {xs ys r s : List Int} (h : NewM p xs ys xs.length r s) : diffB p xs = true ∧ Lag p xs ys xs.length (pf p r) :=
  ⟨diff_yes h.diff, by have := pf_deg hk r; rwa [h.lr] at this, fun j hj hjk => h.hit j hj hjk, fun j hj hjk => by omega⟩
theorem NewM.same {p : Int} (hk : known p = true) {xs ys r s : List Int} {k : Nat} (h : NewM p xs ys k r s) (hkx : k < xs.length) (hv : ival p (Po.ev (pf p s) (ph p xs[k]) s.length) = 0) : diffB p xs = false := by
  obtain ⟨j, hj, e⟩ := (h.value hk hkx).1 hv
  exact diff_no hkx hj e
end Go.Proofs.Ytgdnkbigdggbaaa
