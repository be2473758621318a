/- The walk of the reference's interpolation. -/
import Derived.Test.YtgdnkbigdggbaaaRefT
namespace Go.Proofs.Ytgdnkbigdggbaaa
open Go.RowKit Go.BigFrame

theorem sb_eq_zero {p : Int} (hk : known p = true) (a b : Int) : sb p a b = 0 ↔ ph p a = ph p b := by
  rw [ph_eq hk, sb, if_pos hk]
  constructor
  · intro h
    have := Int.emod_emod_of_dvd (a - b) (Int.dvd_refl p)
    have h2 : (a - b + b) % p = b % p := by rw [Int.add_emod, h, Int.zero_add, Int.emod_emod]
    rwa [show a - b + b = a by omega] at h2
  · intro h
    rw [Int.sub_emod, h, Int.sub_self, Int.zero_emod]
theorem diff_inj {p : Int} (hk : known p = true) {l : List Int} (h : diffB p l = true) {i j : Nat} (hi : i < l.length) (hj : j < l.length) (e : ph p l[i] = ph p l[j]) : i = j := by
  unfold diffB at h
  rw [decide_eq_true_eq] at h
  rcases Nat.lt_trichotomy i j with l1 | l1 | l1
  · exact absurd ((sb_eq_zero hk _ _).2 (by rw [getD_lt _ hj, getD_lt _ hi]; exact e.symm)) (h j hj i l1)
  · exact l1
  · exact absurd ((sb_eq_zero hk _ _).2 (by rw [getD_lt _ hj, getD_lt _ hi]; exact e)) (h i hi j l1)
theorem diff_nodup {p : Int} (hk : known p = true) {l : List Int} (h : diffB p l = true) : (l.map (ph p)).Nodup := by
  refine List.pairwise_iff_getElem.2 fun i j hi hj hij e => ?_
  simp only [List.length_map] at hi hj
  simp only [List.getElem_map] at e
  have := diff_inj hk h hi hj e
  omega

/-- All points but number k. -/
def others (xs : List Int) (k : Nat) : List Int := xs.take k ++ xs.drop (k + 1)
theorem others_len {xs : List Int} {k : Nat} (h : k < xs.length) : (others xs k).length + 1 = xs.length := by
  simp [others]; omega
theorem others_mem {xs : List Int} {k j : Nat} (hk : k < xs.length) (hj : j < xs.length) (h : j ≠ k) : xs[j] ∈ others xs k := by
  unfold others
  rw [List.mem_append]
  rcases Nat.lt_or_ge j k with l | l
  · exact .inl (List.mem_take_iff_getElem.2 ⟨j, by omega, rfl⟩)
  · refine .inr (List.mem_drop_iff_getElem.2 ⟨j - (k + 1), by omega, ?_⟩)
    congr 1; omega
theorem others_not {p : Int} (hp : known p = true) {xs : List Int} (hd : diffB p xs = true) {k : Nat} (hk : k < xs.length) : ph p xs[k] ∉ (others xs k).map (ph p) := by
  intro h
  obtain ⟨y, hy, e⟩ := List.mem_map.1 h
  unfold others at hy
  rcases List.mem_append.1 hy with hy | hy
  · obtain ⟨j, hj, rfl⟩ := List.mem_take_iff_getElem.1 hy
    have := diff_inj hp hd (i := j) (j := k) (by omega) hk e
    omega
  · obtain ⟨j, hj, rfl⟩ := List.mem_drop_iff_getElem.1 hy
    have := diff_inj hp hd (i := k + 1 + j) (j := k) (by omega) hk e
    omega

/-- The polynomial has at most n coefficients, the values of ys at the first k points, and 0 at the other ones. -/
structure Lag (p : Int) (xs ys : List Int) (k : Nat) (F : Nat → Fin (Q p)) : Prop where
  deg : Po.Deg F xs.length
  hit : ∀ j (hj : j < xs.length), j < k → Po.ev F (ph p xs[j]) xs.length = ph p (ys.getD j 0)
  zero : ∀ j (hj : j < xs.length), k ≤ j → Po.ev F (ph p xs[j]) xs.length = 0
theorem one_ne {p : Int} (hk : known p = true) : (1 : Fin (Q p)) ≠ 0 := by
  rw [← ph_one hk]
  intro h
  rw [ph_eq_zero hk] at h
  have := known_lo hk
  rw [Int.emod_eq_of_lt (by omega) (by omega)] at h
  omega
theorem Lag.step {p : Int} (hp : known p = true) {xs ys : List Int} {k : Nat} (hk : k < xs.length) {F : Nat → Fin (Q p)} (h : Lag p xs ys k F) {c : Fin (Q p)}
    (hc : c * Po.ev (Po.van ((others xs k).map (ph p))) (ph p xs[k]) xs.length = ph p (ys.getD k 0)) : Lag p xs ys (k + 1) (Po.ad F (Po.sc c (Po.van ((others xs k).map (ph p))))) := by
  have hol := others_len hk
  have hvd : Po.Deg (Po.van ((others xs k).map (ph p))) xs.length := by
    have := (Po.van_deg ((others xs k).map (ph p))).1
    rw [List.length_map, hol] at this; exact this
  have hev : ∀ j (hj : j < xs.length), j ≠ k → Po.ev (Po.van ((others xs k).map (ph p))) (ph p xs[j]) xs.length = 0 := fun j hj hne => by
    have := (Po.van_ev (fld hp) ((others xs k).map (ph p)) (ph p xs[j]) (one_ne hp)).2 (List.mem_map.2 ⟨_, others_mem hk hj hne, rfl⟩)
    rw [List.length_map, hol] at this; exact this
  refine ⟨h.deg.ad (hvd.sc c), fun j hj hjk => ?_, fun j hj hjk => ?_⟩
  · rw [Po.ev_ad, Po.ev_sc]
    by_cases e : j = k
    · subst e
      rw [h.zero j hj (Nat.le_refl _), hc]; grind
    · rw [h.hit j hj (by omega), hev j hj e]; grind
  · rw [Po.ev_ad, Po.ev_sc, h.zero j hj (by omega), hev j hj (by omega)]; grind
theorem van_ne {p : Int} (hp : known p = true) {xs : List Int} (hd : diffB p xs = true) {k : Nat} (hk : k < xs.length) : Po.ev (Po.van ((others xs k).map (ph p))) (ph p xs[k]) xs.length ≠ 0 := by
  intro h
  have hol := others_len hk
  have := (Po.van_ev (fld hp) ((others xs k).map (ph p)) (ph p xs[k]) (one_ne hp)).1 (by rw [List.length_map, hol]; exact h)
  exact others_not hp hd hk this

theorem lag_coef {p : Int} (hp : known p = true) {xs : List Int} (hd : diffB p xs = true) {k : Nat} (hk : k < xs.length) {r7 : List Int} (h : Is p r7 (Po.van ((others xs k).map (ph p)))) (y : Int) :
    ph p (ml p y (iv p (ival p (Po.ev (pf p r7) (ph p xs[k]) r7.length)))) * Po.ev (Po.van ((others xs k).map (ph p))) (ph p xs[k]) xs.length = ph p y := by
  have hol := others_len hk
  have hl : r7.length ≤ xs.length := by have := van_len h; rw [List.length_map] at this; omega
  have e : Po.ev (pf p r7) (ph p xs[k]) r7.length = Po.ev (Po.van ((others xs k).map (ph p))) (ph p xs[k]) xs.length := by
    rw [← Po.ev_any (pf_deg hp r7) hl, h.pf hp]
  have hne := van_ne hp hd hk
  rw [← e] at hne ⊢
  obtain ⟨z, hz⟩ : ∃ z, z = Po.ev (pf p r7) (ph p xs[k]) r7.length := ⟨_, rfl⟩
  rw [← hz] at hne ⊢
  have h1 := ph_ival hp z
  have hu : U (ival p z) := inferInstance
  have h2 := ph_iv hp (b := ival p z) hu.lo (fun h0 => hne (by rw [← h1]; exact (ph_eq_zero hp _).2 h0))
  rw [h1] at h2
  rw [ph_ml hp]
  grind

theorem Lst.pre {w : World} {a : Addr} {c : Nat} {l : List Int} (h : Lst w (.slice (some a) l.length c) l) {k : Nat} (hk : k ≤ l.length) : Lst w (.slice (some a) k c) (l.take k) := by
  have hl : (l.take k).length = k := by rw [List.length_take]; omega
  refine ⟨.inr ⟨a, c, by rw [hl]⟩, fun i hi => ?_, fun y hy => h.us y (List.mem_of_mem_take hy), fun a' n c' e => ?_⟩
  · obtain ⟨b, o, c', e, hc⟩ := h.cells i (by omega)
    simp at e
    obtain ⟨rfl, rfl⟩ := e
    exact ⟨b, o, c, by rw [hl], by rw [hc, List.getElem_take]⟩
  · have := h.room _ _ _ rfl
    cases e; omega
theorem Lst.suf {w : World} {b o c : Nat} {l : List Int} (h : Lst w (.slice (some ⟨b, o, none⟩) l.length c) l) {k : Nat} (hk : k ≤ l.length) (a : Option Addr) (n c' : Nat) (hn : n = l.length - k) (hc' : c' = c - k) (ha : ¬ c = k → a = some ⟨b, o + k, none⟩) (ha2 : c = k → a = some ⟨b, o, none⟩) :
    Lst w (.slice a n c') (l.drop k) := by
  have hl : (l.drop k).length = n := by rw [List.length_drop]; exact hn.symm
  have hr := h.room _ _ _ rfl
  refine ⟨.inr ?_, fun i hi => ?_, fun y hy => h.us y (List.mem_of_mem_drop hy), fun a' n' c'' e => by cases e; omega⟩
  · rw [hl]
    by_cases e : c = k
    · exact ⟨_, c', by rw [ha2 e]⟩
    · exact ⟨_, c', by rw [ha e]⟩
  · obtain ⟨b', o', c'', e, hc⟩ := h.cells (k + i) (by omega)
    simp at e
    obtain ⟨⟨rfl, rfl⟩, rfl⟩ := e
    refine ⟨b, o + k, c', by rw [ha (by omega), hl], ?_⟩
    rw [Nat.add_assoc, hc, List.getElem_drop]

set_option maxHeartbeats 8000000 in
theorem sInterpolate_p (p : Int) (hp : known p = true) (vx vy : Value) (xs ys : List Int) (w : World) (hlx : Lst w vx xs) (hly : Lst w vy ys) (hlen : xs.length = ys.length) (hn : xs.length ≤ 100) (hd : diffB p xs = true) :
    Calls Try.prog 39 #[.int .u64 p, vx, vy] w fun e w' => ∃ v r F, e = .returned v ∧ Own w' w.heap.size v r ∧ Is p r F ∧ Lag p xs ys xs.length F ∧ Below w.heap.size w w' := by
  have hU := known_u hp
  obtain ⟨a0, c0, rfl⟩ := hlx.shape
  obtain ⟨a1, c1, rfl⟩ := hly.shape
  have HL := Lib.hid hlx
  have HM := Lib.hid hly
  have HK := Lib.hid (And.intro hp hd)
  have HN := Lib.hid hlen
  clear hlx hly hp hd hlen
  go_enter Try.func39, Try.ntmps39
  go_wp2
  go_loopw [7, 8] (fun v iv wr => ∃ (k : Nat) (r : List Int) (F : Nat → Fin (Q p)), iv = .int .i64 k ∧ k ≤ xs.length ∧ Own wr w.heap.size v r ∧ Is p r F ∧ Lag p xs ys k F ∧ Below w.heap.size w wr) (fun _ iv _ => xs.length - (intOf iv).toNat)
  case atStart => exact ⟨0, [], Po.ze, rfl, Nat.zero_le _, Own.nil _ _, Is.zero p, ⟨Po.deg_ze _, fun j _ hj => by omega, fun j _ _ => Po.ev_ze _ _⟩, Below.refl _ _⟩
  case round =>
    obtain ⟨k, r, F, rfl, hk, hown, his, hlag, hb⟩ := hrel
    have hrl : r.length ≤ 100 := his.bound fun _ => hlag.deg.mono hn
    have HO := Lib.hid (And.intro hown (And.intro his hlag))
    have HB := Lib.hid hb
    clear hown his hlag hb
    have i0 : (0 : Int) ≤ (k : Int) := by omega
    have i2 : (xs.length : Int) ≤ 100 := by omega
    by_cases hlt : k < xs.length
    · have hlx := HL.out.hold HB.out
      obtain ⟨bx, ox, cx, e, hcx⟩ := hlx.cells k hlt
      obtain ⟨rfl, rfl⟩ : a0 = some ⟨bx, ox, none⟩ ∧ c0 = cx := by simp at e; exact e
      have hroom := hlx.room _ _ _ rfl
      have hr2 : (xs.length : Int) ≤ (c0 : Int) := by omega
      have HLX := Lib.hid hlx
      clear e hlx hcx
      have i1 : (k : Int) < (xs.length : Int) := by omega
      go_upto_region 7 with (at_builtin; refine append_all rfl (.tmp 18) (.tmp 21) rfl wr.heap.size _ [] rfl (Own.nil _ _) _ (xs.take k) rfl (HLX.out.pre hk) (by simp) (by simp; omega) (Nat.le_refl _) ?_; intro v5 w5 hown5 hb5)
      have H5 := Lib.hid (And.intro hown5 hb5)
      have hz5 : wr.heap.size ≤ w5.heap.size := hb5.size
      clear hown5 hb5
      have hroom5 := (HLX.out.hold H5.out.2).room _ _ _ rfl
      have hol := others_len hlt
      have hdl : (xs.drop (k + 1)).length = xs.length - (k + 1) := List.length_drop
      by_cases hcc : c0 = k + 1
      · have hsuf := Lst.suf (HLX.out.hold H5.out.2) (k := k + 1) (by omega) (some ⟨bx, ox, none⟩) (xs.length - (k + 1)) 0 rfl (by omega) (fun h => absurd hcc h) (fun _ => rfl)
        have HSF := Lib.hid hsuf
        clear hsuf
        go_upto_region 8 with (at_builtin; refine append_all rfl (.tmp 23) (.tmp 27) rfl wr.heap.size _ _ rfl H5.out.1 _ (xs.drop (k + 1)) rfl HSF.out (by simp; omega) (by omega) hz5 ?_; intro v6 w6 hown6 hb6)
        rw [← hcc]
        have HCC := Lib.hid hcc
        clear hcc
        have H6 := Lib.hid (show Own w6 wr.heap.size v6 (others xs k) from hown6)
        have HB6 := Lib.hid (H5.out.2.trans hb6)
        clear hown6 hb6
        go_wp2_with fail
        refine (sVanishing_p p _ (others xs k) _ H6.out.lst (by omega)).mono ?_
        rintro _ w7 ⟨v7, r7, rfl, hown7, his7, hb7⟩
        have hl7 : r7.length ≤ xs.length := by have := van_len his7; rw [List.length_map] at this; omega
        have HI7 := Lib.hid his7
        have HO7 := Lib.hid hown7
        have HB7 := Lib.hid (Below.next (Nat.le_refl _) HB6.out hb7)
        have hly7 := (HM.out.hold HB.out).hold HB7.out
        have hlx7 := HLX.out.hold HB7.out
        obtain ⟨by_, oy, cy, e1, g1⟩ := hly7.cells k (by have := HN.out; omega)
        obtain ⟨bx', ox', cx', e2, g2⟩ := hlx7.cells k hlt
        obtain ⟨rfl, rfl⟩ : a1 = some ⟨by_, oy, none⟩ ∧ c1 = cy := by simp at e1; exact e1
        obtain ⟨rfl, rfl⟩ : bx = bx' ∧ ox = ox' := by simp at e2; exact e2.1
        have hu1 := HM.out.us ys[k] (List.getElem_mem _)
        have hu2 := HL.out.us xs[k] (List.getElem_mem _)
        have m1 := fun q : BwAt w7 => Below.hold q.bw g1
        have m2 := fun q : BwAt w7 => Below.hold q.bw g2
        have HE := Lib.hid (fun q : BwAt w7 => (HO7.out.hold q.bw).lst)
        have iy : (k : Int) < (ys.length : Int) := by have := HN.out; omega
        clear hown7 his7 hb7 e1 e2 g1 g2 hly7 hlx7
        go_upto_region 9 with fail
        refine from_now ?_
        intro q
        refine wp_region_bw (by kernel_rfl) (by kernel_rfl) ?_
        repeat (go_big_quiet_step ((first | (go_at_call 28; exact bwAt_of (sEval_u _ _ _ r7 _ (HE.out _) (by omega))) | (go_at_call 61; exact bwAt_nw (rInv_u _ _ _)) | (go_at_call 29; exact bwAt_nw (rMul_u _ _ _ _)))))
        refine wpQuiet_nil ?_
        clear q
        rintro _ ⟨q, rfl⟩
        have hstep := (HO.out.2.2).step HK.out.1 hlt (lag_coef HK.out.1 HK.out.2 hlt HI7.out (ys.getD k 0))
        have hgy : ys.getD k 0 = ys[k] := getD_lt _ (by have := HN.out; omega)
        rw [hgy] at hstep
        obtain ⟨cc, hcc2⟩ : ∃ c, c = ml p ys[k] (iv p (ival p (Po.ev (pf p r7) (ph p xs[k]) r7.length))) := ⟨_, rfl⟩
        rw [← hcc2] at hstep ⊢
        have hucc : U cc := by rw [hcc2]; infer_instance
        have HST := Lib.hid hstep
        have HBq := Lib.hid (Below.next (Nat.le_refl _) HB7.out q.bw)
        clear hstep hgy hcc2 m1 m2
        go_wp2_with fail
        refine (sScale_p p cc _ r7 _ (HE.out q) (by omega)).mono ?_
        rintro _ w8 ⟨v8, r8, rfl, hown8, his8, hb8⟩
        have hl8 : r8.length ≤ 100 := his8.bound fun hk => (Po.Deg.sc (pf_deg hk r7) _).mono (by omega)
        have H8 := Lib.hid (And.intro hown8 his8)
        have HB8 := Lib.hid (Below.next (Nat.le_refl _) HBq.out hb8)
        clear hown8 his8 hb8
        go_wp2_with fail
        refine (sAdd_p p _ _ r r8 _ (HO.out.1.hold HB8.out).lst H8.out.1.lst (by omega) (by omega)).mono ?_
        rintro _ w9 ⟨v9, r9, rfl, hown9, his9, hb9⟩
        have H9 := Lib.hid (And.intro (hown9.low (base' := w.heap.size) (Nat.le_trans HB.out.size HB8.out.size)) (his9.eq (g := Po.ad F (Po.sc (ph p cc) (Po.van ((others xs k).map (ph p))))) fun hk => by rw [HO.out.2.1.pf hk, H8.out.2.pf hk, HI7.out.pf hk]))
        have HB9 := Lib.hid (Below.next (Nat.le_refl _) HB8.out hb9)
        clear hown9 his9 hb9
        go_wp2
        exact ⟨⟨k + 1, r9, _, by go_num, by omega, H9.out.1, H9.out.2, HST.out, Below.next (Nat.le_refl _) HB.out HB9.out⟩, by simp [intOf]; omega⟩
      · have hsuf := Lst.suf (HLX.out.hold H5.out.2) (k := k + 1) (by omega) (some ⟨bx, ox + (k + 1), none⟩) (xs.length - (k + 1)) (c0 - (k + 1)) rfl rfl (fun _ => rfl) (fun h => absurd h hcc)
        have HSF := Lib.hid hsuf
        clear hsuf
        go_upto_region 8 with (at_builtin; refine append_all rfl (.tmp 23) (.tmp 27) rfl wr.heap.size _ _ rfl H5.out.1 _ (xs.drop (k + 1)) rfl HSF.out (by simp; omega) (by omega) hz5 ?_; intro v6 w6 hown6 hb6)
        have H6 := Lib.hid (show Own w6 wr.heap.size v6 (others xs k) from hown6)
        have HB6 := Lib.hid (H5.out.2.trans hb6)
        clear hown6 hb6
        go_wp2_with fail
        refine (sVanishing_p p _ (others xs k) _ H6.out.lst (by omega)).mono ?_
        rintro _ w7 ⟨v7, r7, rfl, hown7, his7, hb7⟩
        have hl7 : r7.length ≤ xs.length := by have := van_len his7; rw [List.length_map] at this; omega
        have HI7 := Lib.hid his7
        have HO7 := Lib.hid hown7
        have HB7 := Lib.hid (Below.next (Nat.le_refl _) HB6.out hb7)
        have hly7 := (HM.out.hold HB.out).hold HB7.out
        have hlx7 := HLX.out.hold HB7.out
        obtain ⟨by_, oy, cy, e1, g1⟩ := hly7.cells k (by have := HN.out; omega)
        obtain ⟨bx', ox', cx', e2, g2⟩ := hlx7.cells k hlt
        obtain ⟨rfl, rfl⟩ : a1 = some ⟨by_, oy, none⟩ ∧ c1 = cy := by simp at e1; exact e1
        obtain ⟨rfl, rfl⟩ : bx = bx' ∧ ox = ox' := by simp at e2; exact e2.1
        have hu1 := HM.out.us ys[k] (List.getElem_mem _)
        have hu2 := HL.out.us xs[k] (List.getElem_mem _)
        have m1 := fun q : BwAt w7 => Below.hold q.bw g1
        have m2 := fun q : BwAt w7 => Below.hold q.bw g2
        have HE := Lib.hid (fun q : BwAt w7 => (HO7.out.hold q.bw).lst)
        have iy : (k : Int) < (ys.length : Int) := by have := HN.out; omega
        clear hown7 his7 hb7 e1 e2 g1 g2 hly7 hlx7
        go_upto_region 9 with fail
        refine from_now ?_
        intro q
        refine wp_region_bw (by kernel_rfl) (by kernel_rfl) ?_
        repeat (go_big_quiet_step ((first | (go_at_call 28; exact bwAt_of (sEval_u _ _ _ r7 _ (HE.out _) (by omega))) | (go_at_call 61; exact bwAt_nw (rInv_u _ _ _)) | (go_at_call 29; exact bwAt_nw (rMul_u _ _ _ _)))))
        refine wpQuiet_nil ?_
        clear q
        rintro _ ⟨q, rfl⟩
        have hstep := (HO.out.2.2).step HK.out.1 hlt (lag_coef HK.out.1 HK.out.2 hlt HI7.out (ys.getD k 0))
        have hgy : ys.getD k 0 = ys[k] := getD_lt _ (by have := HN.out; omega)
        rw [hgy] at hstep
        obtain ⟨cc, hcc2⟩ : ∃ c, c = ml p ys[k] (iv p (ival p (Po.ev (pf p r7) (ph p xs[k]) r7.length))) := ⟨_, rfl⟩
        rw [← hcc2] at hstep ⊢
        have hucc : U cc := by rw [hcc2]; infer_instance
        have HST := Lib.hid hstep
        have HBq := Lib.hid (Below.next (Nat.le_refl _) HB7.out q.bw)
        clear hstep hgy hcc2 m1 m2
        go_wp2_with fail
        refine (sScale_p p cc _ r7 _ (HE.out q) (by omega)).mono ?_
        rintro _ w8 ⟨v8, r8, rfl, hown8, his8, hb8⟩
        have hl8 : r8.length ≤ 100 := his8.bound fun hk => (Po.Deg.sc (pf_deg hk r7) _).mono (by omega)
        have H8 := Lib.hid (And.intro hown8 his8)
        have HB8 := Lib.hid (Below.next (Nat.le_refl _) HBq.out hb8)
        clear hown8 his8 hb8
        go_wp2_with fail
        refine (sAdd_p p _ _ r r8 _ (HO.out.1.hold HB8.out).lst H8.out.1.lst (by omega) (by omega)).mono ?_
        rintro _ w9 ⟨v9, r9, rfl, hown9, his9, hb9⟩
        have H9 := Lib.hid (And.intro (hown9.low (base' := w.heap.size) (Nat.le_trans HB.out.size HB8.out.size)) (his9.eq (g := Po.ad F (Po.sc (ph p cc) (Po.van ((others xs k).map (ph p))))) fun hk => by rw [HO.out.2.1.pf hk, H8.out.2.pf hk, HI7.out.pf hk]))
        have HB9 := Lib.hid (Below.next (Nat.le_refl _) HB8.out hb9)
        clear hown9 his9 hb9
        go_wp2
        exact ⟨⟨k + 1, r9, _, by go_num, by omega, H9.out.1, H9.out.2, HST.out, Below.next (Nat.le_refl _) HB.out HB9.out⟩, by simp [intOf]; omega⟩
    · obtain rfl : k = xs.length := by omega
      go_wp2
      go_ret
      exact ⟨_, r, F, rfl, HO.out.1, HO.out.2.1, HO.out.2.2, HB.out⟩
end Go.Proofs.Ytgdnkbigdggbaaa
