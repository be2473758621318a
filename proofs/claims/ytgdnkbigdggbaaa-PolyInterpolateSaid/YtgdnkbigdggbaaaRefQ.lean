/- The walks of the reference's sums, differences, multiples, shifts. -/
import Derived.Test.YtgdnkbigdggbaaaRefP
namespace Go.Proofs.Ytgdnkbigdggbaaa
open Go.RowKit

/-- A new list is returned: the normal form of the polynomial f. -/
def Poly (p : Int) (f : Nat → Fin (Q p)) (w : World) (e : Ending) (w' : World) : Prop := ∃ v r, e = .returned v ∧ Own w' w.heap.size v r ∧ Is p r f ∧ Below w.heap.size w w'

theorem getD_map {f : Int → Int} (h : f 0 = 0) (l : List Int) (i : Nat) : (l.map f).getD i 0 = f (l.getD i 0) := by
  rcases Nat.lt_or_ge i l.length with hi | hi
  · rw [getD_lt _ (by simpa using hi), getD_lt _ hi]; simp
  · rw [getD_ge _ (by simpa using hi), getD_ge _ hi, h]
theorem rd_zero (p : Int) : rd p 0 = 0 := by unfold rd; split <;> simp
theorem cut0_zeros : ∀ l : List Int, (∀ x ∈ l, x = 0) → cut0 l = [] := by
  intro l
  refine snoc_induct (P := fun l => (∀ x ∈ l, x = 0) → cut0 l = []) (fun _ => rfl) ?_ l
  intro m x ih h
  obtain rfl : x = 0 := h x (by simp)
  rw [cut0_snoc_zero]
  exact ih fun y hy => h y (by simp [hy])
theorem pf_red {p : Int} (hk : known p = true) (l : List Int) : pf p (l.map (rd p)) = pf p l := funext fun i => by
  show ph p _ = ph p _
  rw [getD_map (rd_zero p), ph_rd hk]
theorem is_trim (p : Int) (l : List Int) : Is p (cut0 (l.map (rd p))) (pf p l) := by
  by_cases hk : known p = true
  · rw [← pf_red hk l]
    refine is_cut hk fun x hx => ?_
    obtain ⟨y, _, rfl⟩ := List.mem_map.1 hx
    rw [rd, if_pos hk]
    have := known_lo hk
    exact ⟨Int.emod_nonneg _ (by omega), Int.emod_lt_of_pos _ (by omega)⟩
  · have hk : known p = false := by simpa using hk
    rw [cut0_zeros _ (fun x hx => by obtain ⟨y, _, rfl⟩ := List.mem_map.1 hx; rw [rd, hk]; rfl)]
    exact is_unknown hk _
theorem Is.us {p : Int} {r : List Int} {f : Nat → Fin (Q p)} (h : Is p r f) : known p = true → ∀ x ∈ r, 0 ≤ x ∧ x < p := fun hk => by
  unfold Is at h; rw [if_pos hk] at h; exact h.1.1
theorem Is.eq {p : Int} {r : List Int} {f g : Nat → Fin (Q p)} (h : Is p r f) (e : known p = true → f = g) : Is p r g := by
  unfold Is at h ⊢
  split
  · rename_i hk; rw [if_pos hk] at h; rw [← e hk]; exact h
  · rename_i hk; rw [if_neg hk] at h; exact h
theorem Is.pf {p : Int} {r : List Int} {f : Nat → Fin (Q p)} (h : Is p r f) (hk : known p = true) : pf p r = f := by
  unfold Is at h; rw [if_pos hk] at h; exact h.2
theorem Is.nil {p : Int} {r : List Int} {f : Nat → Fin (Q p)} (h : Is p r f) (hk : known p = false) : r = [] := by
  unfold Is at h; rw [hk] at h; exact h

theorem sTrim_p (p : Int) (v : Value) (l : List Int) (w : World) (hl : Lst w v l) (hn : l.length ≤ 100000) :
    Calls Try.prog 16 #[.int .u64 p, v] w (Poly p (pf p l) w) :=
  (sTrim_u p v l w hl hn).mono fun _ _ ⟨v', e, h1, h2⟩ => ⟨v', _, e, h1, is_trim p l, h2⟩

set_option maxHeartbeats 4000000 in
theorem sScale_p (p n : Int) [hn : U n] (v : Value) (l : List Int) (w : World) (hl : Lst w v l) (hln : l.length ≤ 100000) :
    Calls Try.prog 24 #[.int .u64 p, v, .int .u64 n] w (Poly p (Po.sc (ph p n) (pf p l)) w) := by
  obtain ⟨a0, c0, rfl⟩ := hl.shape
  have HL := Lib.hid hl
  have HI := Lib.hid (show ∀ r, Is p r (pf p (l.map fun x => ml p x n)) → Is p r (Po.sc (ph p n) (pf p l)) from fun r h => h.eq fun hk => funext fun i => by
    show ph p _ = ph p n * ph p _
    rw [getD_map (by unfold ml; simp), ph_ml hk, Fin.mul_comm])
  clear hl
  go_enter Try.func24, Try.ntmps24
  go_wp2
  go_loopw [7, 8] (fun v iv wr => ∃ k : Nat, iv = .int .i64 k ∧ k ≤ l.length ∧ Own wr w.heap.size v ((l.take k).map fun x => ml p x n) ∧ Below w.heap.size w wr) (fun _ iv _ => l.length - (intOf iv).toNat)
  case atStart => exact ⟨0, rfl, Nat.zero_le _, Own.nil _ _, Below.refl _ _⟩
  case round =>
    obtain ⟨k, rfl, hk, hown, hb⟩ := hrel
    by_cases hlt : k < l.length
    · obtain ⟨b, o, c, e, hc⟩ := (HL.out.hold hb).cells k hlt
      have hux := HL.out.us l[k] (List.getElem_mem hlt)
      obtain ⟨rfl, rfl⟩ : a0 = some ⟨b, o, none⟩ ∧ c0 = c := by simp at e; exact e
      clear e
      have i0 : (0 : Int) ≤ (k : Int) := by omega
      have i1 : (k : Int) < (l.length : Int) := by omega
      have i2 : (l.length : Int) ≤ 100000 := by omega
      have HO := Lib.hid hown
      have HB := Lib.hid hb
      clear hown hb
      go_wp2_with (first
        | (go_at_call 29; refine (rMul_u _ _ _ _).mono ?_; rintro _ w1 ⟨rfl, hb1⟩)
        | (at_builtin; refine append_one rfl (.tmp 15) (.tmp 23) rfl w.heap.size _ _ rfl (HO.out.hold hb1.b) _ inferInstance rfl (by simp; omega) (Nat.le_trans HB.out.size hb1.b.size) ?_; intro v' w' hown' hb'))
      refine ⟨⟨k + 1, by go_num, by omega, ?_, ?_⟩, by simp [intOf]; omega⟩
      · rw [take_snoc hlt, List.map_append]; exact hown'
      · exact (Below.next (Nat.le_refl _) HB.out hb1.b).trans hb'
    · obtain rfl : k = l.length := by omega
      rw [List.take_length] at hown
      have i2 : (l.length : Int) ≤ 100000 := by omega
      have HO := Lib.hid hown
      have HB := Lib.hid hb
      clear hown hb
      go_wp2_with fail
      refine (sTrim_p p _ _ _ HO.out.lst (by simp; omega)).mono ?_
      rintro _ w1 ⟨v', r, rfl, hown, his, hb1⟩
      have HR := Lib.hid (And.intro hown (HI.out r his))
      clear hown his
      go_wp2
      go_ret
      exact ⟨_, r, rfl, HR.out.1.low HB.out.size, HR.out.2, Below.next (Nat.le_refl _) HB.out hb1⟩

theorem pf_zip {p : Int} (hk : known p = true) {f : Int → Int → Int} {g : Fin (Q p) → Fin (Q p) → Fin (Q p)} (hf : ∀ x y, ph p (f x y) = g (ph p x) (ph p y)) (h0 : g 0 0 = 0) (a b : List Int) (m : Nat) (ha : a.length ≤ m) (hb : b.length ≤ m) :
    pf p ((List.range m).map fun i => f (a.getD i 0) (b.getD i 0)) = fun i => g (pf p a i) (pf p b i) := funext fun i => by
  show ph p _ = g (ph p _) (ph p _)
  rcases Nat.lt_or_ge i m with hi | hi
  · rw [getD_lt _ (by simpa using hi)]
    simp [hf]
  · rw [getD_ge _ (by simpa using hi), getD_ge a (by omega), getD_ge b (by omega), ph_zero hk, h0]

set_option maxHeartbeats 4000000 in
theorem sAdd_p (p : Int) (va vb : Value) (a b : List Int) (w : World) (hla : Lst w va a) (hlb : Lst w vb b) (hna : a.length ≤ 10000) (hnb : b.length ≤ 10000) :
    Calls Try.prog 20 #[.int .u64 p, va, vb] w (Poly p (Po.ad (pf p a) (pf p b)) w) := by
  obtain ⟨a0, c0, rfl⟩ := hla.shape
  obtain ⟨a1, c1, rfl⟩ := hlb.shape
  obtain ⟨m, hm⟩ : ∃ m, m = max a.length b.length := ⟨_, rfl⟩
  have hma : a.length ≤ m := by omega
  have hmb : b.length ≤ m := by omega
  have hmn : m ≤ 10000 := by omega
  have HL := Lib.hid hla
  have HM := Lib.hid hlb
  have HI := Lib.hid (show ∀ r, Is p r (pf p ((List.range m).map fun i => ad p (a.getD i 0) (b.getD i 0))) → Is p r (Po.ad (pf p a) (pf p b)) from fun r h => h.eq fun hk =>
    pf_zip hk (f := ad p) (g := fun x y => x + y) (fun x y => ph_ad hk x y) (by grind) a b m hma hmb)
  clear hla hlb
  have HMM := Lib.hid hm
  clear hm
  go_enter Try.func20, Try.ntmps20
  go_wp2
  go_loopw [7, 8] (fun v iv wr => ∃ k : Nat, iv = .int .i64 k ∧ k ≤ m ∧ Own wr w.heap.size v ((List.range k).map fun i => ad p (a.getD i 0) (b.getD i 0)) ∧ Below w.heap.size w wr) (fun _ iv _ => m - (intOf iv).toNat)
  case atStart => exact ⟨0, rfl, Nat.zero_le _, Own.nil _ _, Below.refl _ _⟩
  case round =>
    obtain ⟨k, rfl, hk, hown, hb⟩ := hrel
    have i0 : (0 : Int) ≤ (k : Int) := by omega
    have i2 : (a.length : Int) ≤ 10000 := by omega
    have i3 : (b.length : Int) ≤ 10000 := by omega
    have i4 : (k : Int) ≤ 10000 := by omega
    have HO := Lib.hid hown
    have HB := Lib.hid hb
    clear hown hb
    by_cases hlt : k < m
    · have hor : k < a.length ∨ k < b.length := by have := HMM.out; omega
      have hua : U (a.getD k 0) := by
        rcases Nat.lt_or_ge k a.length with h | h
        · rw [getD_lt _ h]; exact HL.out.us _ (List.getElem_mem h)
        · rw [getD_ge _ h]; infer_instance
      have hub : U (b.getD k 0) := by
        rcases Nat.lt_or_ge k b.length with h | h
        · rw [getD_lt _ h]; exact HM.out.us _ (List.getElem_mem h)
        · rw [getD_ge _ h]; infer_instance
      have d1 : k < a.length ∨ (¬ k < a.length ∧ k < b.length) := by omega
      obtain ⟨ga, hga⟩ : ∃ x, x = a.getD k 0 := ⟨_, rfl⟩
      obtain ⟨gb, hgb⟩ : ∃ x, x = b.getD k 0 := ⟨_, rfl⟩
      rw [← hga] at hua
      rw [← hgb] at hub
      have HG := Lib.hid (And.intro hga hgb)
      clear hga hgb hor
      rcases d1 with d1 | ⟨d1, d2⟩
      all_goals
        go_wp2_with fail
        refine (sAt_u _ a k _ (HL.out.hold HB.out) (by omega) (by omega)).mono ?_
        rintro _ w1 ⟨rfl, hb1⟩
        rw [← HG.out.1]
        go_wp2_with fail
        refine (sAt_u _ b k _ (HM.out.hold (Below.next (Nat.le_refl _) HB.out hb1)) (by omega) (by omega)).mono ?_
        rintro _ w2 ⟨rfl, hb2⟩
        rw [← HG.out.2]
        have HB2 := Lib.hid (Below.next (Nat.le_refl _) (Below.next (Nat.le_refl _) HB.out hb1) hb2)
        have HO2 := Lib.hid ((HO.out.hold hb1).hold hb2)
        clear hb1 hb2 HB HO
        go_wp2_with (first
          | (go_at_call 30; refine (rAdd_u _ _ _ _).mono ?_; rintro _ w3 ⟨rfl, hb3⟩)
          | (at_builtin; refine append_one rfl (.tmp 21) (.tmp 30) rfl w.heap.size _ _ rfl (HO2.out.hold hb3.b) _ inferInstance rfl (by simp; omega) (Nat.le_trans HB2.out.size hb3.b.size) ?_; intro v' w' hown' hb'))
        refine ⟨⟨k + 1, by go_num, by omega, ?_, ?_⟩, by simp [intOf]; omega⟩
        · rw [List.range_succ, List.map_append]
          rw [HG.out.1, HG.out.2] at hown'
          exact hown'
        · exact (Below.next (Nat.le_refl _) HB2.out hb3.b).trans hb'
    · obtain rfl : k = m := by omega
      have d1 : ¬ k < a.length := by omega
      have d2 : ¬ k < b.length := by omega
      go_wp2_with fail
      refine (sTrim_p p _ _ _ HO.out.lst (by simp; omega)).mono ?_
      rintro _ w1 ⟨v', r, rfl, hown, his, hb1⟩
      have HR := Lib.hid (And.intro hown (HI.out r his))
      clear hown his
      go_wp2
      go_ret
      exact ⟨_, r, rfl, HR.out.1.low HB.out.size, HR.out.2, Below.next (Nat.le_refl _) HB.out hb1⟩

theorem neg_one {p : Int} (hk : known p = true) : ph p (sb p 0 1) = 0 - 1 := by rw [ph_sb hk, ph_zero hk, ph_one hk]
set_option maxHeartbeats 4000000 in
theorem sSub_p (p : Int) [hp : U p] (va vb : Value) (a b : List Int) (w : World) (hla : Lst w va a) (hlb : Lst w vb b) (hna : a.length ≤ 10000) (hnb : b.length ≤ 10000) :
    Calls Try.prog 22 #[.int .u64 p, va, vb] w (Poly p (Po.sb (pf p a) (pf p b)) w) := by
  have HL := Lib.hid hla
  have HM := Lib.hid hlb
  have HD := Lib.hid (show ∀ r, Is p r (Po.sc (ph p (sb p 0 1)) (pf p b)) → r.length ≤ 10000 from fun r h => by
    by_cases hk : known p = true
    · exact Nat.le_trans (h.len (Po.Deg.sc (pf_deg hk b) _)) hnb
    · rw [h.nil (by simpa using hk)]; simp)
  have HI := Lib.hid (show ∀ r s, Is p r (Po.sc (ph p (sb p 0 1)) (pf p b)) → Is p s (Po.ad (pf p a) (pf p r)) → Is p s (Po.sb (pf p a) (pf p b)) from fun r s h k => k.eq fun hk => by
    rw [h.pf hk, neg_one hk, Po.sb_eq])
  clear hla hlb
  go_enter Try.func22, Try.ntmps22
  go_wp2_with fail
  refine (rNeg_u _ _ _).mono ?_
  rintro _ w1 ⟨rfl, hb1⟩
  go_wp2_with fail
  refine (sScale_p p _ _ b _ (HM.out.hold hb1.b) (by omega)).mono ?_
  rintro _ w2 ⟨v2, r2, rfl, hown2, his2, hb2⟩
  have hl2 := HD.out r2 his2
  have HR2 := Lib.hid (And.intro hown2 his2)
  have HB2 := Lib.hid (Below.next (Nat.le_refl _) hb1.b hb2)
  clear hown2 his2 hb1 hb2
  go_wp2_with fail
  refine (sAdd_p p _ _ a r2 _ (HL.out.hold HB2.out) HR2.out.1.lst hna hl2).mono ?_
  rintro _ w3 ⟨v3, r3, rfl, hown3, his3, hb3⟩
  have HR3 := Lib.hid (And.intro hown3 his3)
  clear hown3 his3
  go_wp2
  go_ret
  exact ⟨_, r3, rfl, HR3.out.1.low HB2.out.size, HI.out r2 r3 HR2.out.2 HR3.out.2, Below.next (Nat.le_refl _) HB2.out hb3⟩
end Go.Proofs.Ytgdnkbigdggbaaa
