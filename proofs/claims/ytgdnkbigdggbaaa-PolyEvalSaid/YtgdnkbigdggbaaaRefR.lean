/- The walks of the reference's shift, product, value. -/
import Derived.Test.YtgdnkbigdggbaaaRefQ
namespace Go.Proofs.Ytgdnkbigdggbaaa
open Go.RowKit

set_option maxHeartbeats 4000000 in
theorem sShift_u (v : Value) (l : List Int) (n : Nat) (w : World) (hl : Lst w v l) (hln : l.length ≤ 100000) (hn : n ≤ 100000) :
    Calls Try.prog 54 #[v, .int .i64 n] w (Gives w (List.replicate n 0 ++ l)) := by
  have HL := Lib.hid hl
  clear hl
  have i0 : (0 : Int) ≤ (n : Int) := by omega
  have i1 : (n : Int) ≤ 100000 := by omega
  go_enter Try.func54, Try.ntmps54
  go_wp2_with (first
    | (at_make; refine make_zeros rfl (.tmp 5) (.tmp 5) rfl w.heap.size n rfl rfl (by omega) (Nat.le_refl _) ?_; intro v1 w1 hown1 hv1 hb1; subst hv1)
    | (at_builtin; refine append_all rfl (.tmp 6) (.tmp 7) rfl w.heap.size _ _ rfl hown1 _ l rfl (HL.out.hold hb1) (by simp; omega) (by omega) hb1.size ?_; intro v' w' hown' hb'))
  go_ret
  exact ⟨_, rfl, hown', hb1.trans hb'⟩

theorem pf_nil {p : Int} (hk : known p = true) : pf p [] = Po.ze := funext fun i => by show ph p _ = 0; rw [getD_ge [] (by simp), ph_zero hk]
theorem pf_shift {p : Int} (hk : known p = true) (r : List Int) (n : Nat) : pf p (List.replicate n 0 ++ r) = Po.shn n (pf p r) := funext fun i => by
  rcases Nat.lt_or_ge i n with h | h
  · rw [Po.shn_low _ _ _ h]
    show ph p _ = 0
    rw [getD_lt _ (by simp; omega), List.getElem_append_left (by simpa using h)]
    simp [ph_zero hk]
  · obtain ⟨j, rfl⟩ : ∃ j, i = n + j := ⟨i - n, by omega⟩
    rw [Po.shn_at]
    show ph p _ = ph p _
    congr 1
    simp [List.getD, List.getElem?_append_right]
theorem pf_take {p : Int} (hk : known p = true) (a : List Int) {k : Nat} (h : k < a.length) : pf p (a.take (k + 1)) = Po.ad (pf p (a.take k)) (Po.shn k (Po.co (ph p a[k]))) := funext fun i => by
  rw [take_snoc h]
  show ph p _ = ph p _ + _
  have hl : (a.take k).length = k := by rw [List.length_take]; omega
  rcases Nat.lt_or_ge i k with h1 | h1
  · rw [Po.shn_low _ _ _ h1, getD_lt _ (by simp; omega), getD_lt _ (by omega), List.getElem_append_left (by omega)]
    grind
  · rw [getD_ge (a.take k) (by omega), ph_zero hk]
    obtain ⟨j, rfl⟩ : ∃ j, i = k + j := ⟨i - k, by omega⟩
    rw [Po.shn_at]
    cases j with
    | zero =>
      rw [getD_lt _ (by simp; omega), List.getElem_append_right (by omega)]
      simp only [Nat.add_zero, hl, Nat.sub_self, List.getElem_singleton, Po.co]
      grind
    | succ j =>
      rw [getD_ge _ (by simp; omega), ph_zero hk]
      show (0 : Fin (Q p)) = 0 + 0
      grind
theorem Is.zero (p : Int) : Is p [] (Po.ze : Nat → Fin (Q p)) := by
  by_cases hk : known p = true
  · unfold Is; rw [if_pos hk]; exact ⟨nf_nil p, pf_nil hk⟩
  · exact is_unknown (by simpa using hk) _

/-- One round of the product. -/
theorem mul_round {p : Int} {a b r r1 r2 : List Int} {k : Nat} (h : k < a.length) (h0 : Is p r (Po.cv (pf p (a.take k)) (pf p b))) (h1 : Is p r1 (Po.sc (ph p a[k]) (pf p b)))
    (h2 : Is p r2 (Po.ad (pf p r) (pf p (List.replicate k 0 ++ r1)))) : Is p r2 (Po.cv (pf p (a.take (k + 1))) (pf p b)) :=
  h2.eq fun hk => by
    rw [h0.pf hk, pf_shift hk, h1.pf hk, pf_take hk a h, Po.ad_cv, Po.cv_shn, Po.cv_co]
theorem Is.bound {p : Int} {r : List Int} {f : Nat → Fin (Q p)} (h : Is p r f) {n : Nat} (hd : known p = true → Po.Deg f n) : r.length ≤ n := by
  by_cases hk : known p = true
  · exact h.len (hd hk)
  · rw [h.nil (by simpa using hk)]; simp
theorem mul_deg {p : Int} (hk : known p = true) (a b : List Int) : Po.Deg (Po.cv (pf p a) (pf p b)) (a.length + b.length) := Po.deg_cv' (pf_deg hk a) (pf_deg hk b)

set_option maxHeartbeats 4000000 in
theorem sMul_p (p : Int) (va vb : Value) (a b : List Int) (w : World) (hla : Lst w va a) (hlb : Lst w vb b) (hna : a.length ≤ 1000) (hnb : b.length ≤ 1000) :
    Calls Try.prog 26 #[.int .u64 p, va, vb] w (Poly p (Po.cv (pf p a) (pf p b)) w) := by
  obtain ⟨a0, c0, rfl⟩ := hla.shape
  have HL := Lib.hid hla
  have HM := Lib.hid hlb
  clear hla hlb
  go_enter Try.func26, Try.ntmps26
  go_wp2
  go_loopw [7, 8] (fun v iv wr => ∃ (k : Nat) (r : List Int), iv = .int .i64 k ∧ k ≤ a.length ∧ Own wr w.heap.size v r ∧ Is p r (Po.cv (pf p (a.take k)) (pf p b)) ∧ Below w.heap.size w wr) (fun _ iv _ => a.length - (intOf iv).toNat)
  case atStart =>
    refine ⟨0, [], rfl, Nat.zero_le _, Own.nil _ _, (Is.zero p).eq fun hk => ?_, Below.refl _ _⟩
    rw [List.take_zero, pf_nil hk]
    exact (funext (Po.cv_ze_l _)).symm
  case round =>
    obtain ⟨k, r, rfl, hk, hown, his, hb⟩ := hrel
    have hrl : r.length ≤ 2000 := by
      have := his.bound (fun hk => mul_deg hk (a.take k) b)
      rw [List.length_take] at this; omega
    by_cases hlt : k < a.length
    · obtain ⟨bb, o, c, e, hc⟩ := (HL.out.hold hb).cells k hlt
      have hux := HL.out.us a[k] (List.getElem_mem hlt)
      obtain ⟨rfl, rfl⟩ : a0 = some ⟨bb, o, none⟩ ∧ c0 = c := by simp at e; exact e
      clear e
      have i0 : (0 : Int) ≤ (k : Int) := by omega
      have i1 : (k : Int) < (a.length : Int) := by omega
      have i2 : (a.length : Int) ≤ 1000 := by omega
      have HO := Lib.hid (And.intro hown his)
      have HB := Lib.hid hb
      clear hown hb his
      go_wp2_with fail
      refine (sScale_p p _ _ b _ (HM.out.hold HB.out) (by omega)).mono ?_
      rintro _ w1 ⟨v1, r1, rfl, hown1, his1, hb1⟩
      have hl1 : r1.length ≤ b.length := his1.bound fun hk => Po.Deg.sc (pf_deg hk b) _
      have H1 := Lib.hid (And.intro hown1 his1)
      have HB1 := Lib.hid hb1
      clear hown1 his1 hb1
      go_wp2_with fail
      refine (sShift_u _ r1 k _ H1.out.1.lst (by omega) (by omega)).mono ?_
      rintro _ w2 ⟨v2, rfl, hown2, hb2⟩
      have H2 := Lib.hid hown2
      have HB2 := Lib.hid (Below.next (Nat.le_refl _) HB1.out hb2)
      clear hown2 hb2
      go_wp2_with fail
      refine (sAdd_p p _ _ r _ _ (HO.out.1.hold HB2.out).lst H2.out.lst (by omega) (by simp; omega)).mono ?_
      rintro _ w3 ⟨v3, r3, rfl, hown3, his3, hb3⟩
      have H3 := Lib.hid (And.intro hown3 (mul_round hlt HO.out.2 H1.out.2 his3))
      have HB3 := Lib.hid (Below.next (Nat.le_refl _) HB.out (Below.next (Nat.le_refl _) HB2.out hb3))
      have hsz : w.heap.size ≤ w2.heap.size := Nat.le_trans HB.out.size HB2.out.size
      clear hown3 his3 hb3
      go_wp2
      exact ⟨⟨k + 1, r3, by go_num, by omega, H3.out.1.low hsz, H3.out.2, HB3.out⟩, by simp [intOf]; omega⟩
    · obtain rfl : k = a.length := by omega
      rw [List.take_length] at his
      have HO := Lib.hid (And.intro hown his)
      have HB := Lib.hid hb
      clear hown hb his
      go_wp2
      go_ret
      exact ⟨_, r, rfl, HO.out.1, HO.out.2, HB.out⟩

/-- The number from 0 to p - 1 that an element is; 0 where p is not known. -/
def ival (p : Int) (z : Fin (Q p)) : Int := if known p then (z.val : Int) else 0
instance {p : Int} {z : Fin (Q p)} : U (ival p z) := by
  unfold ival; split
  · rename_i hk
    have := known_hi hk
    have := z.isLt
    have := q_eq hk
    exact ⟨by omega, by omega⟩
  · infer_instance
theorem ival_of {p : Int} {n : Int} {z : Fin (Q p)} (h : known p = true → (0 ≤ n ∧ n < p) ∧ ph p n = z) (h0 : known p = false → n = 0) : n = ival p z := by
  unfold ival
  split
  · rename_i hk
    obtain ⟨h1, h2⟩ := h hk
    rw [← h2, ph_val hk, Int.emod_eq_of_lt h1.1 h1.2]
  · rename_i hk; exact h0 (by simpa using hk)
theorem ph_ival {p : Int} (hk : known p = true) (z : Fin (Q p)) : ph p (ival p z) = z := by
  unfold ival
  rw [if_pos hk]
  symm
  refine ph_ext hk ?_
  have := z.isLt
  have := q_eq hk
  rw [Int.emod_eq_of_lt (by omega) (by omega)]
theorem ad_bd {p : Int} (hk : known p = true) (a b : Int) : 0 ≤ ad p a b ∧ ad p a b < p := by
  rw [ad, if_pos hk]
  have := known_lo hk
  exact ⟨Int.emod_nonneg _ (by omega), Int.emod_lt_of_pos _ (by omega)⟩

/-- What stays in the rounds of the value. -/
def EvSt (p : Int) (a : List Int) (x : Int) (k : Nat) (out pow : Int) : Prop :=
  U out ∧ U pow ∧ (known p = true → ((0 ≤ out ∧ out < p) ∧ ph p out = Po.ev (pf p a) (ph p x) k) ∧ ph p pow = Po.pwF (ph p x) k) ∧ (known p = false → out = 0)
theorem EvSt.step {p : Int} {a : List Int} {x : Int} {k : Nat} {out pow : Int} (h : EvSt p a x k out pow) (hk : k < a.length) : EvSt p a x (k + 1) (ad p out (ml p a[k] pow)) (ml p pow x) := by
  refine ⟨inferInstance, inferInstance, fun hp => ?_, fun hp => by rw [ad, hp]; rfl⟩
  obtain ⟨⟨_, h2⟩, h3⟩ := h.2.2.1 hp
  refine ⟨⟨ad_bd hp _ _, ?_⟩, by rw [ph_ml hp, h3]; rfl⟩
  rw [ph_ad hp, ph_ml hp, h2, h3, Po.ev_snoc]
  congr 2
  show _ = ph p (a.getD k 0)
  rw [getD_lt _ hk]

set_option maxHeartbeats 4000000 in
theorem sEval_u (p x : Int) [hx : U x] (va : Value) (a : List Int) (w : World) (hla : Lst w va a) (hna : a.length ≤ 100000) :
    Calls Try.prog 28 #[.int .u64 p, va, .int .u64 x] w fun e w' => e = .returned (.int .u64 (ival p (Po.ev (pf p a) (ph p x) a.length))) ∧ Below w.heap.size w w' := by
  obtain ⟨a0, c0, rfl⟩ := hla.shape
  have HL := Lib.hid hla
  clear hla
  have HS := Lib.hid (show EvSt p a x 0 0 1 from ⟨inferInstance, inferInstance, fun hk => ⟨⟨⟨by omega, by have := known_lo hk; omega⟩, ph_zero hk⟩, ph_one hk⟩, fun _ => rfl⟩)
  go_enter Try.func28, Try.ntmps28
  go_wp2
  go_loopw [7, 8, 9] (fun ov pv iv wr => ∃ (k : Nat) (out pow : Int), iv = .int .i64 k ∧ ov = .int .u64 out ∧ pv = .int .u64 pow ∧ k ≤ a.length ∧ EvSt p a x k out pow ∧ Below w.heap.size w wr) (fun _ _ iv _ => a.length - (intOf iv).toNat)
  case atStart => exact ⟨0, 0, 1, rfl, rfl, rfl, Nat.zero_le _, HS.out, Below.refl _ _⟩
  case round =>
    obtain ⟨k, out, pow, rfl, rfl, rfl, hk, hst, hb⟩ := hrel
    have hu1 := hst.1
    have hu2 := hst.2.1
    by_cases hlt : k < a.length
    · obtain ⟨bb, o, c, e, hc⟩ := (HL.out.hold hb).cells k hlt
      have hux := HL.out.us a[k] (List.getElem_mem hlt)
      obtain ⟨rfl, rfl⟩ : a0 = some ⟨bb, o, none⟩ ∧ c0 = c := by simp at e; exact e
      clear e
      have i0 : (0 : Int) ≤ (k : Int) := by omega
      have i1 : (k : Int) < (a.length : Int) := by omega
      have i2 : (a.length : Int) ≤ 100000 := by omega
      have HT := Lib.hid (hst.step hlt)
      have HB := Lib.hid hb
      clear hst hb
      go_wp2_with fail
      refine (rMul_u _ _ _ _).mono ?_
      rintro _ w1 ⟨rfl, hb1⟩
      go_wp2_with fail
      refine (rAdd_u _ _ _ _).mono ?_
      rintro _ w2 ⟨rfl, hb2⟩
      go_wp2_with fail
      refine (rMul_u _ _ _ _).mono ?_
      rintro _ w3 ⟨rfl, hb3⟩
      have HB3 := Lib.hid (Below.next (Nat.le_refl _) (Below.next (Nat.le_refl _) (Below.next (Nat.le_refl _) HB.out hb1.b) hb2.b) hb3.b)
      clear hb1 hb2 hb3
      go_wp2
      exact ⟨⟨k + 1, _, _, by go_num, rfl, rfl, by omega, HT.out, HB3.out⟩, by simp [intOf]; omega⟩
    · obtain rfl : k = a.length := by omega
      have he := ival_of (fun hk => (hst.2.2.1 hk).1) hst.2.2.2
      have HE := Lib.hid he
      have HB := Lib.hid hb
      clear hst hb he
      go_wp2
      go_ret
      exact ⟨ret_int HE.out, HB.out⟩
end Go.Proofs.Ytgdnkbigdggbaaa
