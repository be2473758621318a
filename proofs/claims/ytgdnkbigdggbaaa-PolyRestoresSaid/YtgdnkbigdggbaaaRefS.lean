/- The walks of the reference's division, and of its greatest common divisor. -/
import Derived.Test.YtgdnkbigdggbaaaRefR
import Derived.Test.YtgdnkbigdggbaaaPolyG
import Derived.Deep.Cut
namespace Go.Proofs.Ytgdnkbigdggbaaa
open Go.RowKit

theorem pf_one {p : Int} (hk : known p = true) (c : Int) : pf p [c] = Po.co (ph p c) := funext fun i => by
  cases i with
  | zero => rfl
  | succ i => show ph p _ = 0; rw [getD_ge _ (by simp), ph_zero hk]
theorem pf_at {p : Int} (l : List Int) {i : Nat} (h : i < l.length) : pf p l i = ph p l[i] := by show ph p _ = _; rw [getD_lt _ h]
theorem Is.nf {p : Int} {r : List Int} {f : Nat → Fin (Q p)} (h : Is p r f) (hk : known p = true) : NF p r := by
  unfold Is at h; rw [if_pos hk] at h; exact h.1
theorem Is.top {p : Int} {r : List Int} {f : Nat → Fin (Q p)} (h : Is p r f) (hk : known p = true) {n : Nat} (hr : r.length = n + 1) : f n ≠ 0 ∧ Po.Deg f (n + 1) := by
  have hne : r ≠ [] := by intro e; rw [e] at hr; simp at hr
  have h1 := nf_top hk (h.nf hk) hne
  rw [h.pf hk, hr] at h1
  refine ⟨h1, ?_⟩
  rw [← h.pf hk, ← hr]
  exact pf_deg hk r
theorem last_ne {p : Int} {r : List Int} (h : NF p r) {n : Nat} (hr : r.length = n + 1) : r[n] % p ≠ 0 := by
  have hne : r ≠ [] := by intro e; rw [e] at hr; simp at hr
  have h1 := h.2 hne
  rw [List.getLast_eq_getElem] at h1
  have e : r[r.length - 1] = r[n] := by congr 1; omega
  rw [e] at h1
  have h2 := h.1 r[n] (List.getElem_mem _)
  rw [Int.emod_eq_of_lt h2.1 h2.2]
  exact h1

theorem lit1 (w : World) (c : Int) [hc : U c] : Lst (w.alloc (.cells #[.int .u64 c] 22)) (.slice (some ⟨w.heap.size, 0, none⟩) 1 1) [c] :=
  ⟨.inr ⟨_, _, rfl⟩, fun i hi => by
    obtain rfl : i = 0 := by simp at hi; exact hi
    exact ⟨_, _, _, rfl, by go_simp⟩, fun y hy => by simp at hy; subst hy; exact hc, fun a n k e => by cases e; exact Nat.le_refl _⟩

/-- A quotient and a remainder are returned. -/
def Quot (p : Int) (f b : Nat → Fin (Q p)) (w : World) (e : Ending) (w' : World) : Prop :=
  ∃ v1 v2 r1 r2, e = .returned (.tuple #[v1, v2]) ∧ Own w' w.heap.size v1 r1 ∧ Own w' w.heap.size v2 r2 ∧ (∃ u r, Is p r1 u ∧ Is p r2 r ∧ Po.DivOf f b u r) ∧ r1.length ≤ 1001 ∧ r2.length ≤ 1000 ∧ Below w.heap.size w w'

/-- What stays in the rounds of the division. -/
structure DivSt (p : Int) (A B : Nat → Fin (Q p)) (a qs : List Int) : Prop where
  nfa : NF p a
  nfq : NF p qs
  eq : Po.ad (Po.cv (pf p qs) B) (pf p a) = A
  la : a.length ≤ 1000
  lq : qs.length ≤ 1001
theorem DivSt.step {p : Int} (hk : known p = true) {A : Nat → Fin (Q p)} {a b qs q2 a2 t : List Int} {n m : Nat} {c : Int} (h : DivSt p A (pf p b) a qs) (hb : b.length = m + 1) (ha : a.length = n + m + 1)
    (hc : ph p c * ph p b[m] = ph p a[n + m]) (ht : t = List.replicate n 0 ++ [c]) {tb : List Int} (htb : Is p tb (Po.cv (pf p t) (pf p b))) (hq : Is p q2 (Po.ad (pf p qs) (pf p t))) (h2 : Is p a2 (Po.sb (pf p a) (pf p tb))) :
    DivSt p A (pf p b) a2 q2 ∧ a2.length ≤ n + m := by
  have et : pf p t = Po.shn n (Po.co (ph p c)) := by rw [ht, pf_shift hk, pf_one hk]
  have hr := Po.div_round (n := n) (c := ph p c) h.eq (by rw [← hb]; exact pf_deg hk b) (by rw [← ha]; exact pf_deg hk a) (by rw [pf_at b (by omega), pf_at a (by omega)]; exact hc)
  rw [← et] at hr
  have hq' := hq.pf hk
  have ha' := h2.pf hk
  rw [htb.pf hk] at ha'
  have hl : a2.length ≤ n + m := nf_len hk (h2.nf hk) (by rw [ha']; exact hr.2)
  refine ⟨⟨h2.nf hk, hq.nf hk, by rw [hq', ha']; exact hr.1, ?_, ?_⟩, hl⟩
  · have := h.la; omega
  · refine nf_len hk (hq.nf hk) ?_
    rw [hq']
    refine Po.Deg.ad ((pf_deg hk qs).mono h.lq) ?_
    have := pf_deg hk t
    rw [ht] at this ⊢
    refine this.mono ?_
    have := h.la
    simp
    omega

set_option maxHeartbeats 8000000 in
theorem sDivMod_p (p : Int) (hk : known p = true) (va vb : Value) (a b : List Int) (w : World) (hla : Lst w va a) (hlb : Lst w vb b) (hna : a.length ≤ 500) (hnb : b.length ≤ 500) (hnz : pf p b ≠ Po.ze) :
    Calls Try.prog 33 #[.int .u64 p, va, vb] w (Quot p (pf p a) (pf p b) w) := by
  have hU := known_u hk
  have HL := Lib.hid hla
  have HM := Lib.hid hlb
  have HK := Lib.hid hk
  have HZ := Lib.hid hnz
  clear hla hlb hk hnz
  go_enter Try.func33, Try.ntmps33
  go_wp2_with fail
  refine (sTrim_p p _ a _ HL.out (by omega)).mono ?_
  rintro _ w1 ⟨v1, r1, rfl, hown1, his1, hb1⟩
  have H1 := Lib.hid (And.intro hown1 his1)
  have HB1 := Lib.hid hb1
  clear hown1 his1 hb1
  go_wp2_with fail
  refine (sTrim_p p _ b _ (HM.out.hold HB1.out) (by omega)).mono ?_
  rintro _ w2 ⟨v2, r2, rfl, hown2, his2, hb2⟩
  have hl1 : r1.length ≤ 500 := H1.out.2.bound (n := 500) fun hk => (pf_deg hk a).mono hna
  have hl2 : r2.length ≤ 500 := his2.bound (n := 500) fun hk => (pf_deg hk b).mono hnb
  obtain ⟨m, hm⟩ : ∃ m, r2.length = m + 1 := by
    cases hr : r2.length with
    | zero =>
      exfalso
      have e : r2 = [] := List.length_eq_zero_iff.1 hr
      have h := his2.pf HK.out
      rw [e, pf_nil HK.out] at h
      exact HZ.out h.symm
    | succ m => exact ⟨m, rfl⟩
  have H1b := Lib.hid (And.intro (H1.out.1.hold hb2) H1.out.2)
  have H2 := Lib.hid (And.intro hown2 his2)
  have HB2 := Lib.hid (Below.next (Nat.le_refl _) HB1.out hb2)
  obtain ⟨a2, c2, rfl⟩ := hown2.lst.shape
  obtain ⟨bb, o, c, e, hc⟩ := hown2.lst.cells m (by omega)
  obtain ⟨rfl, rfl⟩ : a2 = some ⟨bb, o, none⟩ ∧ c2 = c := by simp at e; exact e
  have hux := hown2.us r2[m] (List.getElem_mem _)
  clear hown2 his2 hb2 e H1
  rw [hm]
  have i2 : (m : Int) ≤ 500 := by omega
  go_wp2_with fail
  refine (rInv_u _ _ _).mono ?_
  rintro _ w3 ⟨rfl, hb3⟩
  have hB := H2.out.2.pf HK.out
  have HLB := Lib.hid (H2.out.1.lst.hold hb3.b)
  have HBP := Lib.hid hB
  have hst0 : DivSt p (pf p a) (pf p r2) r1 [] :=
    ⟨H1b.out.2.nf HK.out, nf_nil p, by rw [pf_nil HK.out, Po.ze_cv, Po.ze_ad]; exact H1b.out.2.pf HK.out, by omega, by simp⟩
  have HO1 := Lib.hid ((H1b.out.1.hold hb3.b).low (base' := w.heap.size) (Nat.le_refl _))
  have HS0 := Lib.hid hst0
  have HB3 := Lib.hid (Below.next (Nat.le_refl _) HB2.out hb3.b)
  have hInv := ph_iv HK.out (b := r2[m]) hux.lo (last_ne (H2.out.2.nf HK.out) hm)
  obtain ⟨ld, hld⟩ : ∃ x, x = iv p r2[m] := ⟨_, rfl⟩
  rw [← hld] at hInv ⊢
  have hul : U ld := by rw [hld]; infer_instance
  have HI := Lib.hid hInv
  clear hB hst0 hb3 hInv hld hc
  go_wp2
  go_loopw [1, 8] (fun av qv wr => ∃ x qs, Own wr w.heap.size av x ∧ Own wr w.heap.size qv qs ∧ DivSt p (pf p a) (pf p r2) x qs ∧ Below w.heap.size w wr ∧ Below w3.heap.size w3 wr) (fun av _ _ => lenOf av)
  case atStart => exact ⟨r1, [], HO1.out, Own.nil _ _, HS0.out, HB3.out, Below.refl _ _⟩
  case round =>
    obtain ⟨x, qs, hox, hoq, hst, hb, hb3⟩ := hrel
    obtain ⟨ax, cx, rfl⟩ := hox.lst.shape
    have hxl := hst.la
    have hxi : (x.length : Int) ≤ 1000 := by omega
    have HO := Lib.hid (And.intro hox (And.intro hoq hst))
    have HB := Lib.hid (And.intro hb hb3)
    clear hox hoq hst hb hb3
    by_cases hge : m + 1 ≤ x.length
    · obtain ⟨n, hn⟩ : ∃ n, x.length = n + m + 1 := ⟨x.length - (m + 1), by omega⟩
      obtain ⟨bx, ox, cx', e, hcx⟩ := HO.out.1.lst.cells (n + m) (by omega)
      obtain ⟨rfl, rfl⟩ : ax = some ⟨bx, ox, none⟩ ∧ cx = cx' := by simp at e; exact e
      have hul2 := HO.out.1.us x[n + m] (List.getElem_mem _)
      clear e
      have HX := Lib.hid (show Own wr w.heap.size (.slice (some ⟨bx, ox, none⟩) (n + m + 1) cx) x by rw [← hn]; exact HO.out.1)
      have HLB2 := Lib.hid (show Lst w3 (.slice (some ⟨bb, o, none⟩) (m + 1) c2) r2 by rw [← hm]; exact HLB.out)
      have hs : (n : Int) + (m : Int) + 1 - ((m : Int) + 1) = (n : Int) := by omega
      have hs2 : (n : Int) + (m : Int) + 1 - 1 = ((n + m : Nat) : Int) := by omega
      have hni : (n : Int) ≤ 1000 := by omega
      go_wp2_with fail
      refine (rMul_u _ _ _ _).mono ?_
      rintro _ w4 ⟨rfl, hb4⟩
      have hc : ph p (ml p x[n + m] ld) * ph p r2[m] = ph p x[n + m] := by
        rw [ph_ml HK.out]; have := HI.out; grind
      obtain ⟨cc, hcc⟩ : ∃ c, c = ml p x[n + m] ld := ⟨_, rfl⟩
      rw [← hcc] at hc ⊢
      have hucc : U cc := by rw [hcc]; infer_instance
      have HC := Lib.hid hc
      have HB4 := Lib.hid hb4.b
      clear hcc hc hb4 hcx
      go_wp2_with fail
      refine (sShift_u _ [cc] n _ (lit1 w4 cc) (by simp) (by omega)).mono ?_
      rintro _ w5 ⟨v5, rfl, hown5, hb5⟩
      have HT := Lib.hid hown5
      have HB5 := Lib.hid (Below.next (Nat.le_refl _) (Below.next (Nat.le_refl _) HB4.out ((Below.refl _ _).alloc (Nat.le_refl _) _)) hb5)
      clear hown5 hb5
      go_wp2_with fail
      refine (sAdd_p p _ _ qs _ _ (HO.out.2.1.hold HB5.out).lst HT.out.lst (by have := HO.out.2.2.lq; omega) (by simp; omega)).mono ?_
      rintro _ w6 ⟨v6, q2, rfl, hown6, his6, hb6⟩
      have H6 := Lib.hid (And.intro hown6 his6)
      have HT6 := Lib.hid (HT.out.hold hb6)
      have HB6 := Lib.hid (Below.next (Nat.le_refl _) HB5.out hb6)
      clear hown6 his6 hb6 HT
      go_wp2_with fail
      refine (sMul_p p _ _ _ r2 _ HT6.out.lst (HLB2.out.hold (Below.next (Nat.le_refl _) HB.out.2 HB6.out)) (by simp; omega) (by omega)).mono ?_
      rintro _ w7 ⟨v7, tb, rfl, hown7, his7, hb7⟩
      have hl7 : tb.length ≤ 2000 := his7.bound fun hk => (mul_deg hk _ _).mono (by simp; omega)
      have H7 := Lib.hid (And.intro hown7 his7)
      have HB7 := Lib.hid (Below.next (Nat.le_refl _) HB6.out hb7)
      have H6b := Lib.hid (H6.out.1.hold hb7)
      clear hown7 his7 hb7
      go_wp2_with fail
      refine (sSub_p p _ _ x tb _ (HX.out.hold HB7.out).lst H7.out.1.lst (by omega) (by omega)).mono ?_
      rintro _ w8 ⟨v8, a2, rfl, hown8, his8, hb8⟩
      obtain ⟨hst, hla2⟩ := HO.out.2.2.step HK.out hm hn HC.out rfl H7.out.2 H6.out.2 his8
      have H8 := Lib.hid (And.intro hown8 hst)
      have H6c := Lib.hid (H6b.out.hold hb8)
      have HB8 := Lib.hid (Below.next (Nat.le_refl _) HB7.out hb8)
      have hz5 : w.heap.size ≤ w5.heap.size := Nat.le_trans HB.out.1.size HB5.out.size
      have hz7 : w.heap.size ≤ w7.heap.size := Nat.le_trans HB.out.1.size HB7.out.size
      obtain ⟨a8, c8, rfl⟩ := hown8.lst.shape
      clear hown8 his8 hb8 hst
      go_wp2
      exact ⟨⟨a2, q2, H8.out.1.low hz7, H6c.out.low hz5, H8.out.2, Below.next (Nat.le_refl _) HB.out.1 HB8.out, Below.next (Nat.le_refl _) HB.out.2 HB8.out⟩, by simp [lenOf]; omega⟩
    · have hlt : x.length < m + 1 := by omega
      have hd : Po.DivOf (pf p a) (pf p b) (pf p qs) (pf p x) := by
        rw [← HBP.out]
        have ht := H2.out.2.top HK.out hm
        rw [← HBP.out] at ht
        exact ⟨HO.out.2.2.eq, m, ht.2, ht.1, (pf_deg HK.out x).mono (by omega)⟩
      have iq : Is p qs (pf p qs) := by unfold Is; rw [if_pos HK.out]; exact ⟨HO.out.2.2.nfq, rfl⟩
      have ix : Is p x (pf p x) := by unfold Is; rw [if_pos HK.out]; exact ⟨HO.out.2.2.nfa, rfl⟩
      have HD := Lib.hid (And.intro hd (And.intro iq ix))
      clear hd iq ix
      go_wp2
      go_ret2
      exact ⟨_, _, qs, x, rfl, HO.out.2.1, HO.out.1, ⟨_, _, HD.out.2.1, HD.out.2.2, HD.out.1⟩, HO.out.2.2.lq, by omega, HB.out.1⟩

set_option maxHeartbeats 4000000 in
theorem sMonic_p (p : Int) [hU : U p] (va : Value) (a : List Int) (w : World) (hla : Lst w va a) (hna : a.length ≤ 5000) :
    Calls Try.prog 63 #[.int .u64 p, va] w fun e w' => ∃ v r g, e = .returned v ∧ Own w' w.heap.size v r ∧ Is p r g ∧ (known p = true → Po.Mon (pf p a) g) ∧ Below w.heap.size w w' := by
  have HL := Lib.hid hla
  clear hla
  go_enter Try.func63, Try.ntmps63
  go_wp2_with fail
  refine (sTrim_p p _ a _ HL.out (by omega)).mono ?_
  rintro _ w1 ⟨v1, r1, rfl, hown1, his1, hb1⟩
  have hl1 : r1.length ≤ 5000 := his1.bound fun hk => (pf_deg hk a).mono hna
  cases hr : r1.length with
  | zero =>
    have e : r1 = [] := List.length_eq_zero_iff.1 hr
    obtain ⟨a1, c1, rfl⟩ := hown1.lst.shape
    subst e
    have hm : known p = true → Po.Mon (pf p a) Po.ze := fun hk => .inl ⟨by rw [← his1.pf hk, pf_nil hk], rfl⟩
    have HI := Lib.hid (And.intro hm hb1)
    clear hown1 his1 hm hb1 hr hl1
    go_wp2
    go_ret
    exact ⟨_, [], Po.ze, rfl, Own.nil _ _, Is.zero p, HI.out.1, HI.out.2⟩
  | succ m =>
    have hk : known p = true := by
      cases hk : known p with
      | true => rfl
      | false => rw [his1.nil hk] at hr; simp at hr
    obtain ⟨a1, c1, rfl⟩ := hown1.lst.shape
    obtain ⟨bb, o, c, e, hc⟩ := hown1.lst.cells m (by omega)
    obtain ⟨rfl, rfl⟩ : a1 = some ⟨bb, o, none⟩ ∧ c1 = c := by simp at e; exact e
    have hux := hown1.us r1[m] (List.getElem_mem _)
    have hinv := ph_iv hk (b := r1[m]) hux.lo (last_ne (his1.nf hk) hr)
    have hm : Po.Mon (pf p a) (Po.sc (ph p (iv p r1[m])) (pf p r1)) := by
      refine .inr ⟨m, ph p (iv p r1[m]), (his1.top hk hr).2, ?_, by rw [his1.pf hk]⟩
      have e1 := pf_at (p := p) r1 (show m < r1.length by omega)
      rw [his1.pf hk] at e1
      rw [e1]; exact hinv
    have HLr := Lib.hid (show Lst w1 (.slice (some ⟨bb, o, none⟩) (m + 1) c1) r1 by rw [← hr]; exact hown1.lst)
    have HI := Lib.hid (And.intro hm hb1)
    have i2 : (m : Int) ≤ 5000 := by omega
    rw [hr]
    clear hown1 his1 hm hb1 e hinv hk
    go_wp2_with fail
    refine (rInv_u _ _ _).mono ?_
    rintro _ w2 ⟨rfl, hb2⟩
    have HB2 := Lib.hid hb2.b
    clear hb2 hc
    go_wp2_with fail
    refine (sScale_p p _ _ r1 _ (HLr.out.hold HB2.out) (by omega)).mono ?_
    rintro _ w3 ⟨v3, r3, rfl, hown3, his3, hb3⟩
    have H3 := Lib.hid (And.intro hown3 his3)
    have HB3 := Lib.hid (Below.next (Nat.le_refl _) HI.out.2 (Below.next (Nat.le_refl _) HB2.out hb3))
    have hz : w.heap.size ≤ w2.heap.size := Nat.le_trans HI.out.2.size HB2.out.size
    clear hown3 his3 hb3
    go_wp2
    go_ret
    exact ⟨_, r3, _, rfl, H3.out.1.low hz, H3.out.2, fun _ => HI.out.1, HB3.out⟩

/-- What stays in the rounds of Euclid's algorithm. -/
structure GcdSt (p : Int) (A B : Nat → Fin (Q p)) (x y : List Int) : Prop where
  nx : Is p x (pf p x)
  ny : Is p y (pf p y)
  combs : known p = true → Po.Comb A B (pf p x) ∧ Po.Comb A B (pf p y) ∧ Po.Comb (pf p x) (pf p y) A ∧ Po.Comb (pf p x) (pf p y) B
  lx : x.length ≤ 500
  ly : y.length ≤ 500
theorem GcdSt.nz {p : Int} {A B : Nat → Fin (Q p)} {x y : List Int} (h : GcdSt p A B x y) (hy : y ≠ []) : known p = true ∧ pf p y ≠ Po.ze := by
  cases hk : known p with
  | false => exact absurd (h.ny.nil hk) hy
  | true =>
    refine ⟨rfl, fun e => ?_⟩
    have := nf_top hk (h.ny.nf hk) hy
    rw [e] at this
    exact this rfl
theorem GcdSt.step {p : Int} {A B : Nat → Fin (Q p)} {x y r1 r2 : List Int} (h : GcdSt p A B x y) (hy : y ≠ []) (hq : ∃ u r, Is p r1 u ∧ Is p r2 r ∧ Po.DivOf (pf p x) (pf p y) u r) : GcdSt p A B y r2 ∧ r2.length < y.length := by
  obtain ⟨hk, hnz⟩ := h.nz hy
  obtain ⟨u, r, i1, i2, e, m, hb, hbm, hr⟩ := hq
  have h1 : r2.length ≤ m := i2.len hr
  have h2 : m < y.length := Nat.lt_of_not_le fun hle => hbm (pf_deg hk y m hle)
  obtain ⟨c1, c2, c3, c4⟩ := h.combs hk
  have hu : Po.Deg u r1.length := by rw [← i1.pf hk]; exact pf_deg hk r1
  obtain ⟨d1, d2, d3⟩ := Po.euclid_round hu e c1 c2 c3 c4
  have er : pf p r2 = r := i2.pf hk
  exact ⟨⟨h.ny, by rw [er]; exact i2, fun _ => by rw [er]; exact ⟨c2, d1, d2, d3⟩, h.ly, by have := h.ly; omega⟩, by omega⟩
theorem is_self {p : Int} {x : List Int} {f : Nat → Fin (Q p)} (h : Is p x f) : Is p x (pf p x) := by
  unfold Is at h ⊢
  split
  · rename_i hk; rw [if_pos hk] at h; exact ⟨h.1, rfl⟩
  · rename_i hk; rw [if_neg hk] at h; exact h

set_option maxHeartbeats 4000000 in
theorem sGCD_p (p : Int) [hU : U p] (va vb : Value) (a b : List Int) (w : World) (hla : Lst w va a) (hlb : Lst w vb b) (hna : a.length ≤ 500) (hnb : b.length ≤ 500) :
    Calls Try.prog 35 #[.int .u64 p, va, vb] w fun e w' => ∃ v r g, e = .returned v ∧ Own w' w.heap.size v r ∧ Is p r g ∧ (known p = true → Po.GcdOf (pf p a) (pf p b) g) ∧ Below w.heap.size w w' := by
  have HL := Lib.hid hla
  have HM := Lib.hid hlb
  clear hla hlb
  go_enter Try.func35, Try.ntmps35
  go_wp2_with fail
  refine (sTrim_p p _ a _ HL.out (by omega)).mono ?_
  rintro _ w1 ⟨v1, r1, rfl, hown1, his1, hb1⟩
  have H1 := Lib.hid (And.intro hown1 his1)
  have HB1 := Lib.hid hb1
  clear hown1 his1 hb1
  go_wp2_with fail
  refine (sTrim_p p _ b _ (HM.out.hold HB1.out) (by omega)).mono ?_
  rintro _ w2 ⟨v2, r2, rfl, hown2, his2, hb2⟩
  have H2 := Lib.hid (And.intro (hown2.low (base' := w.heap.size) HB1.out.size) his2)
  have H1b := Lib.hid (H1.out.1.hold hb2)
  have HB2 := Lib.hid (Below.next (Nat.le_refl _) HB1.out hb2)
  clear hown2 his2 hb2
  have HS := Lib.hid (show GcdSt p (pf p a) (pf p b) r1 r2 from ⟨is_self H1.out.2, is_self H2.out.2, fun hk => by
      rw [H1.out.2.pf hk, H2.out.2.pf hk]
      exact ⟨Po.Comb.left _ _, Po.Comb.right _ _, Po.Comb.left _ _, Po.Comb.right _ _⟩,
    H1.out.2.bound fun hk => (pf_deg hk a).mono hna, H2.out.2.bound fun hk => (pf_deg hk b).mono hnb⟩)
  go_wp2
  go_loopw [1, 2] (fun av bv wr => ∃ x y, Own wr w.heap.size av x ∧ Own wr w.heap.size bv y ∧ GcdSt p (pf p a) (pf p b) x y ∧ Below w.heap.size w wr) (fun _ bv _ => lenOf bv)
  case atStart => exact ⟨r1, r2, H1b.out, H2.out.1, HS.out, HB2.out⟩
  case round =>
    obtain ⟨x, y, hox, hoy, hst, hb⟩ := hrel
    obtain ⟨ay, cy, rfl⟩ := hoy.lst.shape
    have HO := Lib.hid (And.intro hox (And.intro hoy hst))
    have HB := Lib.hid hb
    have hyl : (y.length : Int) ≤ 500 := by have := hst.ly; omega
    have hxl : x.length ≤ 500 := hst.lx
    clear hox hoy hst hb
    by_cases hy : y = []
    · subst hy
      go_wp2_with fail
      refine (sMonic_p p _ x _ HO.out.1.lst (by omega)).mono ?_
      rintro _ w3 ⟨v3, r3, g, rfl, hown3, his3, hmon, hb3⟩
      have hg : known p = true → Po.GcdOf (pf p a) (pf p b) g := fun hk => by
        obtain ⟨k1, _, k3, k4⟩ := HO.out.2.2.combs hk
        rw [pf_nil hk] at k3 k4
        exact Po.mon_gcd k1 k3 k4 (hmon hk)
      have H3 := Lib.hid (And.intro (hown3.low (base' := w.heap.size) HB.out.size) (And.intro his3 hg))
      have HB3 := Lib.hid (Below.next (Nat.le_refl _) HB.out hb3)
      clear hown3 his3 hmon hb3 hg
      go_wp2
      go_ret
      exact ⟨_, r3, g, rfl, H3.out.1, H3.out.2.1, H3.out.2.2, HB3.out⟩
    · have hpos : 0 < y.length := List.length_pos_iff.2 hy
      have hp2 : (0 : Int) < (y.length : Int) := by omega
      have HY := Lib.hid hy
      clear hy
      go_wp2_with fail
      refine (sDivMod_p p (HO.out.2.2.nz HY.out).1 _ _ x y _ HO.out.1.lst HO.out.2.1.lst hxl HO.out.2.2.ly (HO.out.2.2.nz HY.out).2).mono ?_
      rintro _ w3 ⟨v3, v4, r3, r4, rfl, hown3, hown4, hq, _, hl4, hb3⟩
      obtain ⟨hst2, hlt⟩ := HO.out.2.2.step HY.out hq
      have H3 := Lib.hid (And.intro (hown4.low (base' := w.heap.size) HB.out.size) hst2)
      have HB3 := Lib.hid (Below.next (Nat.le_refl _) HB.out hb3)
      have HOy := Lib.hid (HO.out.2.1.hold hb3)
      obtain ⟨a4, c4, rfl⟩ := hown4.lst.shape
      clear hown3 hown4 hq hb3 hst2
      go_wp2
      exact ⟨⟨y, r4, HOy.out, H3.out.1, H3.out.2, HB3.out⟩, by simp [lenOf]; omega⟩
end Go.Proofs.Ytgdnkbigdggbaaa
