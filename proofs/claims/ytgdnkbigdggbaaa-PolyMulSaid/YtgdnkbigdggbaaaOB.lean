/- The walks of package poly's extended, addMultiple, Add, Sub, Scale. -/
import Derived.Test.YtgdnkbigdggbaaaOA
import Derived.Test.YtgdnkbigdggbaaaPolyG
import Derived.Laws.CopyOwn
namespace Go.Proofs.Ytgdnkbigdggbaaa
open Go.RowKit Go.BigFrame

/-- With zeros at the end, up to n elements. -/
def extL (l : List Int) (n : Nat) : List Int := l ++ List.replicate (n - l.length) 0
theorem extL_len (l : List Int) (n : Nat) : (extL l n).length = max l.length n := by simp [extL]; omega
theorem extL_getD (l : List Int) (n i : Nat) : (extL l n).getD i 0 = l.getD i 0 := by
  rcases Nat.lt_or_ge i l.length with h | h
  · rw [getD_lt _ h, getD_lt _ (by rw [extL_len]; omega)]
    simp [extL, List.getElem_append_left h]
  · rw [getD_ge l h]
    rcases Nat.lt_or_ge i (extL l n).length with h2 | h2
    · rw [getD_lt _ h2]
      simp [extL, List.getElem_append_right h]
    · rw [getD_ge _ h2]
theorem Own.exact {w : World} {base g n : Nat} {l : List Int} (h : Own w base (.slice (some ⟨g, 0, none⟩) n n) l) : w.heap[g]? = some (.cells (vs l).toArray 22 (0, 0)) := by
  obtain rfl := h.len
  rcases h.row.2 with ⟨e, _⟩ | ⟨g', cap, cur, e, hb, hg, hn, hm, hs, ht⟩
  · cases e
  · obtain ⟨rfl, rfl⟩ : g = g' ∧ l.length = cap := by simp at e; exact e
    rw [hg, ← ht, List.take_of_length_le (by simp; omega)]
theorem own_of {w : World} {base g : Nat} {l : List Int} (hb : base ≤ g) (hg : w.heap[g]? = some (.cells (vs l).toArray 22 (0, 0))) (hl : l.length ≤ 1000000) (hu : Us l) : Own w base (.slice (some ⟨g, 0, none⟩) l.length l.length) l :=
  ⟨⟨by rw [vs_len]; omega, .inr ⟨g, l.length, _, rfl, hb, hg, Nat.le_refl _, by unfold maxLen; omega, by simp [vs], by rw [Nat.mul_one]; exact List.take_of_length_le (by simp [vs])⟩⟩, hu⟩

theorem splice_vs (l : List Int) (m : Nat) : splice (vs (List.replicate m 0)) 0 (vs l) = vs (extL l m) := by
  simp [splice, vs, extL]
theorem copy_src {w : World} {a0 : Option Addr} {c0 : Nat} {l : List Int} (h : Lst w (.slice a0 l.length c0) l) (hp : 0 < (vs l).length) : ∃ ad, a0 = some ad ∧ ∀ (j : Nat) (v : Value), (vs l)[j]? = some v → w.cell? (ad.add j) = some v := by
  rw [vs_len] at hp
  obtain ⟨b, o, c, e, _⟩ := h.cells 0 hp
  obtain ⟨rfl, rfl⟩ : a0 = some ⟨b, o, none⟩ ∧ c0 = c := by simp at e; exact e
  refine ⟨_, rfl, fun j v hj => ?_⟩
  have hjn : j < l.length := by have := (List.getElem?_eq_some_iff.1 hj).1; rwa [vs_len] at this
  rw [vs_at hjn] at hj
  cases hj
  obtain ⟨b1, o1, c1, e1, h1⟩ := h.cells j hjn
  cases e1
  rw [Go.WideShapes.add_plain]
  exact h1

set_option maxHeartbeats 2000000 in
theorem extended_u (v : Value) (l : List Int) (n : Nat) (w : World) (hl : Lst w v l) (hln : l.length ≤ 1000) (hn : n ≤ 1000) : Calls Try.prog 48 #[v, .int .i64 n] w fun e w' => ∃ g c, e = .returned (.slice (some ⟨g, 0, none⟩) (extL l n).length c) ∧ Own w' w.heap.size (.slice (some ⟨g, 0, none⟩) (extL l n).length c) (extL l n) ∧ Below w.heap.size w w' := by
  obtain ⟨a0, c0, rfl⟩ := hl.shape
  have HL := Lib.hid hl
  clear hl
  have i0 : (0 : Int) ≤ (n : Int) := by omega
  have i1 : (n : Int) ≤ 1000 := by omega
  have i2 : (l.length : Int) ≤ 1000 := by omega
  by_cases h : l.length < n
  · go_enter Try.func48, Try.ntmps48
    go_wp2_with (first
      | (at_make; refine make_zeros rfl (.tmp 9) (.tmp 9) rfl w.heap.size n rfl rfl (by omega) (Nat.le_refl _) ?_; intro v1 w1 hown1 hv1 hb1; subst hv1)
      | ((with_reducible show wpList _ _ _ _ _ _); refine wpList_copy_splice (o := ⟨some 13, _, _, _, _, _⟩) rfl (.tmp 11) (.tmp 12) 23 23 rfl 22 Try.underlying23 (by kernel_rfl) _ _ _ _ _ _ rfl rfl w.heap.size 0 (vs (List.replicate n 0)) 22 hown1.exact (vs l) (by rw [vs_len]; show _ = min _ _; omega) (fun hp => ⟨rfl, copy_src (HL.out.hold hb1) hp⟩) (by simp [vs]; omega) (fun u hu => vs_one hu) w.heap.size w hb1 (Nat.le_refl _) ?_; intro w2 HG2 hB2; rw [splice_vs l n] at HG2))

    go_ret
    have hm : (extL l n).length = n := by rw [extL_len]; omega
    have ho := own_of (Nat.le_refl _) HG2.out (by omega) (fun y hy => by
      rcases List.mem_append.1 hy with hy | hy
      · exact HL.out.us y hy
      · rw [(List.mem_replicate.1 hy).2]; infer_instance)
    refine ⟨_, _, ?_, ho, hB2⟩
    rw [hm]; rfl
  · have hnl : n ≤ l.length := by omega
    have he : extL l n = extL l l.length := by unfold extL; rw [Nat.sub_self, show n - l.length = 0 by omega]
    have HE := Lib.hid hnl
    rw [he]
    clear he hnl
    go_enter Try.func48, Try.ntmps48
    go_wp2_with (first
      | (at_make; refine make_zeros rfl (.tmp 9) (.tmp 9) rfl w.heap.size l.length rfl rfl (by omega) (Nat.le_refl _) ?_; intro v1 w1 hown1 hv1 hb1; subst hv1)
      | ((with_reducible show wpList _ _ _ _ _ _); refine wpList_copy_splice (o := ⟨some 13, _, _, _, _, _⟩) rfl (.tmp 11) (.tmp 12) 23 23 rfl 22 Try.underlying23 (by kernel_rfl) _ _ _ _ _ _ rfl rfl w.heap.size 0 (vs (List.replicate l.length 0)) 22 hown1.exact (vs l) (by rw [vs_len]; show _ = min _ _; omega) (fun hp => ⟨rfl, copy_src (HL.out.hold hb1) hp⟩) (by simp [vs]) (fun u hu => vs_one hu) w.heap.size w hb1 (Nat.le_refl _) ?_; intro w2 HG2 hB2; rw [splice_vs l l.length] at HG2))
    go_ret
    have hm : (extL l l.length).length = l.length := by rw [extL_len]; omega
    have ho := own_of (Nat.le_refl _) HG2.out (by omega) (fun y hy => by
      rcases List.mem_append.1 hy with hy | hy
      · exact HL.out.us y hy
      · rw [(List.mem_replicate.1 hy).2]; infer_instance)
    refine ⟨_, _, ?_, ho, hB2⟩
    rw [hm]; rfl

/-- k elements from o on replaced. -/
def updK (f : Nat → Int) (L : List Int) (o k : Nat) : List Int := (List.range L.length).map fun i => if o ≤ i ∧ i < o + k then f i else L.getD i 0
theorem updK_len (f : Nat → Int) (L : List Int) (o k : Nat) : (updK f L o k).length = L.length := by simp [updK]
theorem updK_zero (f : Nat → Int) (L : List Int) (o : Nat) : updK f L o 0 = L := by
  refine List.ext_getElem (updK_len _ _ _ _) fun i h1 h2 => ?_
  simp only [updK, List.getElem_map, List.getElem_range]
  rw [if_neg (by omega), getD_lt _ h2]
theorem updK_at {f : Nat → Int} {L : List Int} {o k : Nat} (h : o + k < L.length) : (updK f L o k)[o + k]'(by rw [updK_len]; exact h) = L[o + k] := by
  simp only [updK, List.getElem_map, List.getElem_range]
  rw [if_neg (by omega), getD_lt _ h]
theorem updK_set {f : Nat → Int} {L : List Int} {o k : Nat} : (updK f L o k).set (o + k) (f (o + k)) = updK f L o (k + 1) := by
  refine List.ext_getElem (by simp [updK_len]) fun i h1 h2 => ?_
  rw [List.getElem_set]
  simp only [updK, List.getElem_map, List.getElem_range]
  by_cases hi : o + k = i
  · subst hi
    rw [if_pos rfl, if_pos (by omega)]
  · rw [if_neg hi]
    by_cases h3 : o ≤ i ∧ i < o + k
    · rw [if_pos h3, if_pos (by omega)]
    · rw [if_neg h3, if_neg (by omega)]
theorem updK_at0 {f : Nat → Int} {L : List Int} {k : Nat} (h : k < L.length) : (updK f L 0 k)[k]'(by rw [updK_len]; exact h) = L[k] := by
  simp only [updK, List.getElem_map, List.getElem_range]
  rw [if_neg (by omega), getD_lt _ h]
theorem updK_set0 {f : Nat → Int} {L : List Int} {k : Nat} : (updK f L 0 k).set k (f k) = updK f L 0 (k + 1) := by
  have h := updK_set (f := f) (L := L) (o := 0) (k := k)
  simp only [Nat.zero_add] at h
  exact h
theorem updK_getD (f : Nat → Int) (L : List Int) (o k i : Nat) : (updK f L o k).getD i 0 = if i < L.length ∧ o ≤ i ∧ i < o + k then f i else L.getD i 0 := by
  rcases Nat.lt_or_ge i L.length with h | h
  · rw [getD_lt _ (by rw [updK_len]; exact h)]
    simp only [updK, List.getElem_map, List.getElem_range]
    by_cases h3 : o ≤ i ∧ i < o + k
    · rw [if_pos h3, if_pos ⟨h, h3⟩]
    · rw [if_neg h3, if_neg (by omega)]
  · rw [getD_ge _ (by rw [updK_len]; exact h), getD_ge L h, if_neg (by omega)]
/-- What addMultiple leaves. -/
def addL (p m : Int) (L a : List Int) (o : Nat) : Nat → Int := fun i => ad p (L.getD i 0) (ml p (a.getD (i - o) 0) m)

set_option maxHeartbeats 4000000 in
theorem addMultiple_w (p m : Int) [hm : U m] (base g n c cap o : Nat) (L a : List Int) (va : Value) (w : World) (hown : Own w base (.slice (some ⟨g, 0, none⟩) L.length cap) L) (hla : Lst w va a) (hoff : 0 < a.length → va.ownBlock ≠ some g) (ho : o + a.length ≤ L.length) (hn : a.length ≤ n) (hL : L.length ≤ 1000) :
    Calls Try.prog 53 #[.agg #[.int .u64 p], .slice (some ⟨g, o, none⟩) n c, va, .int .u64 m] w fun e w' =>
      e = .returned (.tuple #[]) ∧ Own w' base (.slice (some ⟨g, 0, none⟩) L.length cap) (updK (addL p m L a o) L o a.length) ∧ w.grownBy w' (some g) := by
  obtain ⟨a0, c0, rfl⟩ := hla.shape
  have hgw := (hown.row.lt g rfl).2
  have HW := Lib.hid hown
  have HL := Lib.hid hla
  have HN := Lib.hid (And.intro hoff ho)
  clear hown hla hoff ho
  go_enter Try.func53, Try.ntmps53
  go_wp2
  go_loopw [12] (fun iv wr => ∃ k : Nat, iv = .int .i64 k ∧ k ≤ a.length ∧ wr.cell? ⟨w.heap.size, 0, none⟩ = some (.int .u64 p) ∧ Own wr base (.slice (some ⟨g, 0, none⟩) L.length cap) (updK (addL p m L a o) L o k) ∧ w.grownBy wr (some g)) (fun iv _ => a.length - (intOf iv).toNat)
  case atStart => exact ⟨0, rfl, Nat.zero_le _, by go_simp, by rw [updK_zero]; exact HW.out.hold (Below.made (Nat.le_refl _) (Below.refl _ _) _), grown_below (Below.made (Nat.le_refl _) (Below.refl _ _) _)⟩
  case round =>
    obtain ⟨k, rfl, hk, hp, hown, hg⟩ := hrel
    by_cases hlt : k < a.length
    · have hok : o + k < L.length := by have := HN.out.2; omega
      have hc : wr.cell? ⟨g, o + k, none⟩ = some (.int .u64 L[o + k]) := by
        rw [hown.cell (by rw [updK_len]; exact hok), updK_at hok]
      have hz := hown.thawed (o + k)
      have hux := HW.out.us L[o + k] (List.getElem_mem hok)
      have hua := HL.out.us a[k] (List.getElem_mem hlt)
      obtain ⟨b, oa, ca, e, hca⟩ := (HL.out.kept hg HN.out.1).cells k hlt
      obtain ⟨rfl, rfl⟩ : a0 = some ⟨b, oa, none⟩ ∧ c0 = ca := by simp at e; exact e
      clear e
      have hset := updK_set (f := addL p m L a o) (L := L) (o := o) (k := k)
      have hval : addL p m L a o (o + k) = ad p L[o + k] (ml p a[k] m) := by
        unfold addL; rw [getD_lt _ hok, show o + k - o = k by omega, getD_lt _ hlt]
      rw [hval] at hset
      obtain ⟨x, hx⟩ : ∃ x, x = L[o + k] := ⟨_, rfl⟩
      obtain ⟨y, hy⟩ : ∃ y, y = a[k] := ⟨_, rfl⟩
      rw [← hx] at hux hc hset
      rw [← hy] at hua hca hset
      have i0 : (0 : Int) ≤ (k : Int) := by omega
      have i1 : (k : Int) < (a.length : Int) := by omega
      have i2 : (a.length : Int) ≤ 1000 := by have := HN.out.2; omega
      have i3 : (k : Int) < (n : Int) := by omega
      have HO := Lib.hid (And.intro hown (And.intro hg hset))
      clear hown hg hset hx hy hval
      go_wp2_with fail
      have k0 := fun q : NwAt wr => q.nw.hold hp
      have k1 := fun q : NwAt wr => q.nw.hold hc
      have k2 := fun q : NwAt wr => q.nw.hold hca
      have k3 := fun q : NwAt wr => q.nw.holdf hz
      refine from_here ?_
      intro q
      refine wp_region_nwt 13 (by kernel_rfl) (by kernel_rfl) ?_
      simp only [List.take_succ_cons, List.take_zero, List.drop_succ_cons, List.drop_zero]
      repeat (go_big_quiet_step ((first | (go_at_call 55; exact nwAt_of (fMul_u _ _ _ _)) | (go_at_call 49; exact nwAt_of (fAdd_u _ _ _ _)))))
      refine wpQuiet_nil ?_
      clear q
      rintro _ ⟨q, rfl⟩
      have j1 := k1 q
      have j3 := k3 q
      clear k1 k3
      go_wp2
      have hs := (HO.out.1.hold q.nw.b).set (o + k) (ad p x (ml p y m))
      refine ⟨⟨k + 1, by go_num, by omega, ?_, by rw [← HO.out.2.2]; exact hs.1, grown_trans (grown_next HO.out.2.1 q.nw.b) hs.2⟩, by simp [intOf]; omega⟩
      rw [World.cell?_setCell_far _ _ _ _ (by show g ≠ w.heap.size; omega)]
      exact k0 q
    · obtain rfl : k = a.length := by omega
      have HO := Lib.hid (And.intro hown hg)
      clear hown hg
      go_wp2
      go_end0
      exact ⟨rfl, HO.out.1, HO.out.2⟩

theorem pf_upd {p : Int} (hk : known p = true) {op : Int → Int → Int} {g : Fin (Q p) → Fin (Q p) → Fin (Q p)} (hf : ∀ x y, ph p (op x y) = g (ph p x) (ph p y)) (h0 : ∀ x, g x 0 = x) (a b : List Int) :
    pf p (updK (fun i => op ((extL a b.length).getD i 0) (b.getD i 0)) (extL a b.length) 0 b.length) = fun i => g (pf p a i) (pf p b i) := funext fun i => by
  show ph p _ = g (ph p _) (ph p _)
  rw [updK_getD]
  have hl : b.length ≤ (extL a b.length).length := by rw [extL_len]; omega
  rcases Nat.lt_or_ge i b.length with h | h
  · rw [if_pos (by omega), hf, extL_getD]
  · rw [if_neg (by omega), extL_getD, getD_ge b h, ph_zero hk, h0]

set_option maxHeartbeats 4000000 in
theorem oAdd_any (p : Int) (va vb : Value) (a b : List Int) (w : World) (hla : Lst w va a) (hlb : Lst w vb b) (hna : a.length ≤ 500) (hnb : b.length ≤ 500) :
    Calls Try.prog 19 #[.agg #[.int .u64 p], va, vb] w (Poly p (Po.ad (pf p a) (pf p b)) w) := by
  obtain ⟨a1, c1, rfl⟩ := hlb.shape
  have HL := Lib.hid hla
  have HM := Lib.hid hlb
  have HI := Lib.hid (show ∀ r, Is p r (pf p (updK (fun i => ad p ((extL a b.length).getD i 0) (b.getD i 0)) (extL a b.length) 0 b.length)) → Is p r (Po.ad (pf p a) (pf p b)) from fun r h => h.eq fun hk => pf_upd hk (op := ad p) (g := (fun x y => x + y)) (fun x y => ph_ad hk x y) (fun x => by grind) a b)
  clear hla hlb
  have i2 : (b.length : Int) ≤ 500 := by omega
  go_enter Try.func19, Try.ntmps19
  go_wp2_with (go_at_call 48; refine (extended_u _ a b.length _ (HL.out.hold (Below.made (Nat.le_refl _) (Below.refl _ _) _)) (by omega) (by omega)).mono ?_; rintro _ w1 ⟨g, c, rfl, hown, hb⟩)
  obtain ⟨L, hL⟩ : ∃ L, L = extL a b.length := ⟨_, rfl⟩
  rw [← hL] at hown ⊢
  have hLn : b.length ≤ L.length ∧ L.length ≤ 500 := by rw [hL, extL_len]; omega
  have hbx : w1.cell? ⟨w.heap.size, 0, none⟩ = some (.int .u64 p) := Below.hold hb (by go_simp)
  have hbw : Below w.heap.size w w1 := (Below.made (Nat.le_refl _) (Below.refl _ _) _).trans (hb.mono (by simp))
  have how := hown.low (base' := w.heap.size + 1) (by simp)
  replace HI := Lib.hid (show ∀ r, Is p r (pf p (updK (fun i => ad p (L.getD i 0) (b.getD i 0)) L 0 b.length)) → Is p r (Po.ad (pf p a) (pf p b)) from by rw [hL]; exact HI.out)
  have HO := Lib.hid (And.intro how (And.intro hbx hbw))
  clear hown hb hL how hbx hbw
  go_loopw [16] (fun iv wr => ∃ k : Nat, iv = .int .i64 k ∧ k ≤ b.length ∧ wr.cell? ⟨w.heap.size, 0, none⟩ = some (.int .u64 p) ∧ Own wr (w.heap.size + 1) (.slice (some ⟨g, 0, none⟩) L.length c) (updK (fun i => ad p (L.getD i 0) (b.getD i 0)) L 0 k) ∧ Below w.heap.size w wr) (fun iv _ => b.length - (intOf iv).toNat)
  case atStart => exact ⟨0, rfl, Nat.zero_le _, HO.out.2.1, by rw [updK_zero]; exact HO.out.1, HO.out.2.2⟩
  case round =>
    obtain ⟨k, rfl, hk, hp, hown, hb⟩ := hrel
    have hgs := hown.row.lt g rfl
    by_cases hlt : k < b.length
    · have hok : k < L.length := by omega
      have hc : wr.cell? ⟨g, k, none⟩ = some (.int .u64 L[k]) := by
        rw [hown.cell (by rw [updK_len]; exact hok), updK_at0 hok]
      have hz := hown.thawed k
      have hux := HO.out.1.us L[k] (List.getElem_mem hok)
      have hub := HM.out.us b[k] (List.getElem_mem hlt)
      obtain ⟨bb, ob, cb, e, hcb⟩ := (HM.out.hold hb).cells k hlt
      obtain ⟨rfl, rfl⟩ : a1 = some ⟨bb, ob, none⟩ ∧ c1 = cb := by simp at e; exact e
      clear e
      have hset := updK_set0 (f := fun i => ad p (L.getD i 0) (b.getD i 0)) (L := L) (k := k)
      have hval : ad p (L.getD k 0) (b.getD k 0) = ad p L[k] b[k] := by
        rw [getD_lt _ hok, getD_lt _ hlt]
      rw [hval] at hset
      obtain ⟨x, hx⟩ : ∃ x, x = L[k] := ⟨_, rfl⟩
      obtain ⟨y, hy⟩ : ∃ y, y = b[k] := ⟨_, rfl⟩
      rw [← hx] at hux hc hset
      rw [← hy] at hub hcb hset
      have i0 : (0 : Int) ≤ (k : Int) := by omega
      have i1 : (k : Int) < (b.length : Int) := by omega
      have i3 : (k : Int) < (L.length : Int) := by omega
      have i4 : (L.length : Int) ≤ 500 := by omega
      have HW := Lib.hid (And.intro hown (And.intro hb hset))
      clear hown hb hset hx hy hval
      go_wp2_with fail
      have k0 := fun q : NwAt wr => q.nw.hold hp
      have k1 := fun q : NwAt wr => q.nw.hold hc
      have k3 := fun q : NwAt wr => q.nw.holdf hz
      refine from_here ?_
      intro q
      refine wp_region_nwt 10 (by kernel_rfl) (by kernel_rfl) ?_
      simp only [List.take_succ_cons, List.take_zero, List.drop_succ_cons, List.drop_zero]
      repeat (go_big_quiet_step ((first | (go_at_call 49; exact nwAt_of (fAdd_u _ _ _ _)))))
      refine wpQuiet_nil ?_
      clear q
      rintro _ ⟨q, rfl⟩
      have j1 := k1 q
      have j3 := k3 q
      clear k1 k3
      go_wp2
      have hs := (HW.out.1.hold q.nw.b).set k (ad p x y)
      refine ⟨⟨k + 1, by go_num, by omega, ?_, by rw [← HW.out.2.2]; exact hs.1, Below.wrote (Below.next (Nat.le_refl _) HW.out.2.1 q.nw.b) (by omega) (Nat.le_trans HW.out.2.1.size q.nw.b.size) (HW.out.1.hold q.nw.b) hs.2⟩, by simp [intOf]; omega⟩
      rw [World.cell?_setCell_far _ _ _ _ (by show g ≠ w.heap.size; omega)]
      exact k0 q
    · obtain rfl : k = b.length := by omega
      have HW := Lib.hid (And.intro hown hb)
      clear hown hb
      go_wp2_with (go_at_call 44; refine (trim_w p _ _ _ _ HW.out.1 (by rw [updK_len]; omega)).mono ?_; rintro _ w2 ⟨v2, rfl, _, hown2, hg2⟩)
      go_ret
      exact ⟨_, _, rfl, hown2.low (by omega), HI.out _ (is_trim p _), Below.wrote HW.out.2 (by omega) HW.out.2.size HW.out.1 hg2⟩
set_option maxHeartbeats 4000000 in
theorem oSub_any (p : Int) (va vb : Value) (a b : List Int) (w : World) (hla : Lst w va a) (hlb : Lst w vb b) (hna : a.length ≤ 500) (hnb : b.length ≤ 500) :
    Calls Try.prog 21 #[.agg #[.int .u64 p], va, vb] w (Poly p (Po.sb (pf p a) (pf p b)) w) := by
  obtain ⟨a1, c1, rfl⟩ := hlb.shape
  have HL := Lib.hid hla
  have HM := Lib.hid hlb
  have HI := Lib.hid (show ∀ r, Is p r (pf p (updK (fun i => sb p ((extL a b.length).getD i 0) (b.getD i 0)) (extL a b.length) 0 b.length)) → Is p r (Po.sb (pf p a) (pf p b)) from fun r h => h.eq fun hk => pf_upd hk (op := sb p) (g := (fun x y => x - y)) (fun x y => ph_sb hk x y) (fun x => by grind) a b)
  clear hla hlb
  have i2 : (b.length : Int) ≤ 500 := by omega
  go_enter Try.func21, Try.ntmps21
  go_wp2_with (go_at_call 48; refine (extended_u _ a b.length _ (HL.out.hold (Below.made (Nat.le_refl _) (Below.refl _ _) _)) (by omega) (by omega)).mono ?_; rintro _ w1 ⟨g, c, rfl, hown, hb⟩)
  obtain ⟨L, hL⟩ : ∃ L, L = extL a b.length := ⟨_, rfl⟩
  rw [← hL] at hown ⊢
  have hLn : b.length ≤ L.length ∧ L.length ≤ 500 := by rw [hL, extL_len]; omega
  have hbx : w1.cell? ⟨w.heap.size, 0, none⟩ = some (.int .u64 p) := Below.hold hb (by go_simp)
  have hbw : Below w.heap.size w w1 := (Below.made (Nat.le_refl _) (Below.refl _ _) _).trans (hb.mono (by simp))
  have how := hown.low (base' := w.heap.size + 1) (by simp)
  replace HI := Lib.hid (show ∀ r, Is p r (pf p (updK (fun i => sb p (L.getD i 0) (b.getD i 0)) L 0 b.length)) → Is p r (Po.sb (pf p a) (pf p b)) from by rw [hL]; exact HI.out)
  have HO := Lib.hid (And.intro how (And.intro hbx hbw))
  clear hown hb hL how hbx hbw
  go_loopw [16] (fun iv wr => ∃ k : Nat, iv = .int .i64 k ∧ k ≤ b.length ∧ wr.cell? ⟨w.heap.size, 0, none⟩ = some (.int .u64 p) ∧ Own wr (w.heap.size + 1) (.slice (some ⟨g, 0, none⟩) L.length c) (updK (fun i => sb p (L.getD i 0) (b.getD i 0)) L 0 k) ∧ Below w.heap.size w wr) (fun iv _ => b.length - (intOf iv).toNat)
  case atStart => exact ⟨0, rfl, Nat.zero_le _, HO.out.2.1, by rw [updK_zero]; exact HO.out.1, HO.out.2.2⟩
  case round =>
    obtain ⟨k, rfl, hk, hp, hown, hb⟩ := hrel
    have hgs := hown.row.lt g rfl
    by_cases hlt : k < b.length
    · have hok : k < L.length := by omega
      have hc : wr.cell? ⟨g, k, none⟩ = some (.int .u64 L[k]) := by
        rw [hown.cell (by rw [updK_len]; exact hok), updK_at0 hok]
      have hz := hown.thawed k
      have hux := HO.out.1.us L[k] (List.getElem_mem hok)
      have hub := HM.out.us b[k] (List.getElem_mem hlt)
      obtain ⟨bb, ob, cb, e, hcb⟩ := (HM.out.hold hb).cells k hlt
      obtain ⟨rfl, rfl⟩ : a1 = some ⟨bb, ob, none⟩ ∧ c1 = cb := by simp at e; exact e
      clear e
      have hset := updK_set0 (f := fun i => sb p (L.getD i 0) (b.getD i 0)) (L := L) (k := k)
      have hval : sb p (L.getD k 0) (b.getD k 0) = sb p L[k] b[k] := by
        rw [getD_lt _ hok, getD_lt _ hlt]
      rw [hval] at hset
      obtain ⟨x, hx⟩ : ∃ x, x = L[k] := ⟨_, rfl⟩
      obtain ⟨y, hy⟩ : ∃ y, y = b[k] := ⟨_, rfl⟩
      rw [← hx] at hux hc hset
      rw [← hy] at hub hcb hset
      have i0 : (0 : Int) ≤ (k : Int) := by omega
      have i1 : (k : Int) < (b.length : Int) := by omega
      have i3 : (k : Int) < (L.length : Int) := by omega
      have i4 : (L.length : Int) ≤ 500 := by omega
      have HW := Lib.hid (And.intro hown (And.intro hb hset))
      clear hown hb hset hx hy hval
      go_wp2_with fail
      have k0 := fun q : NwAt wr => q.nw.hold hp
      have k1 := fun q : NwAt wr => q.nw.hold hc
      have k3 := fun q : NwAt wr => q.nw.holdf hz
      refine from_here ?_
      intro q
      refine wp_region_nwt 10 (by kernel_rfl) (by kernel_rfl) ?_
      simp only [List.take_succ_cons, List.take_zero, List.drop_succ_cons, List.drop_zero]
      repeat (go_big_quiet_step ((first | (go_at_call 51; exact nwAt_of (fSub_u _ _ _ _)))))
      refine wpQuiet_nil ?_
      clear q
      rintro _ ⟨q, rfl⟩
      have j1 := k1 q
      have j3 := k3 q
      clear k1 k3
      go_wp2
      have hs := (HW.out.1.hold q.nw.b).set k (sb p x y)
      refine ⟨⟨k + 1, by go_num, by omega, ?_, by rw [← HW.out.2.2]; exact hs.1, Below.wrote (Below.next (Nat.le_refl _) HW.out.2.1 q.nw.b) (by omega) (Nat.le_trans HW.out.2.1.size q.nw.b.size) (HW.out.1.hold q.nw.b) hs.2⟩, by simp [intOf]; omega⟩
      rw [World.cell?_setCell_far _ _ _ _ (by show g ≠ w.heap.size; omega)]
      exact k0 q
    · obtain rfl : k = b.length := by omega
      have HW := Lib.hid (And.intro hown hb)
      clear hown hb
      go_wp2_with (go_at_call 44; refine (trim_w p _ _ _ _ HW.out.1 (by rw [updK_len]; omega)).mono ?_; rintro _ w2 ⟨v2, rfl, _, hown2, hg2⟩)
      go_ret
      exact ⟨_, _, rfl, hown2.low (by omega), HI.out _ (is_trim p _), Below.wrote HW.out.2 (by omega) HW.out.2.size HW.out.1 hg2⟩

theorem pf_zeros {p : Int} (hk : known p = true) (n : Nat) : pf p (List.replicate n 0) = Po.ze := funext fun i => by
  show ph p _ = 0
  rcases Nat.lt_or_ge i n with h | h
  · rw [getD_lt _ (by simpa using h), List.getElem_replicate, ph_zero hk]
  · rw [getD_ge _ (by simpa using h), ph_zero hk]
theorem pf_addL {p : Int} (hk : known p = true) (m : Int) (L a : List Int) (o : Nat) (h : o + a.length ≤ L.length) :
    pf p (updK (addL p m L a o) L o a.length) = Po.ad (pf p L) (Po.shn o (Po.sc (ph p m) (pf p a))) := funext fun i => by
  show ph p _ = ph p _ + _
  rw [updK_getD]
  rcases Nat.lt_or_ge i o with h1 | h1
  · rw [if_neg (by omega), Po.shn_low _ _ _ h1]; grind
  · obtain ⟨j, rfl⟩ : ∃ j, i = o + j := ⟨i - o, by omega⟩
    rw [Po.shn_at]
    show _ = ph p _ + ph p m * ph p _
    rcases Nat.lt_or_ge j a.length with h2 | h2
    · rw [if_pos (by omega)]
      unfold addL
      rw [ph_ad hk, ph_ml hk, show o + j - o = j by omega]
      grind
    · rw [if_neg (by omega), getD_ge a h2, ph_zero hk]; grind

set_option maxHeartbeats 2000000 in
theorem oScale_any (p n : Int) [hn : U n] (v : Value) (l : List Int) (w : World) (hl : Lst w v l) (hln : l.length ≤ 1000) :
    Calls Try.prog 23 #[.agg #[.int .u64 p], v, .int .u64 n] w (Poly p (Po.sc (ph p n) (pf p l)) w) := by
  obtain ⟨a0, c0, rfl⟩ := hl.shape
  have HL := Lib.hid hl
  have HI := Lib.hid (show ∀ r, Is p r (pf p (updK (addL p n (List.replicate l.length 0) l 0) (List.replicate l.length 0) 0 l.length)) → Is p r (Po.sc (ph p n) (pf p l)) from fun r h => h.eq fun hk => by
    rw [pf_addL hk _ _ _ _ (by simp), pf_zeros hk, Po.ze_ad]; rfl)
  clear hl
  have i2 : (l.length : Int) ≤ 1000 := by omega
  go_enter Try.func23, Try.ntmps23
  go_upto_region 2 with (at_make; refine make_zeros rfl (.tmp 9) (.tmp 9) rfl (w.heap.size + 1) l.length rfl rfl (by omega) (by simp) ?_; intro v1 w1 hown1 hv1 hb1; subst hv1)
  have hb0 : Below w.heap.size w (w.alloc (.cells #[.int .u64 p] 27)) := Below.made (Nat.le_refl _) (Below.refl _ _) _
  have hbx : w1.cell? ⟨w.heap.size, 0, none⟩ = some (.int .u64 p) := (hb1.cell (by show w.heap.size < w.heap.size + 1; omega)).trans (by go_simp)
  have hb := hb0.trans (hb1.mono (by omega))
  have hown := hown1
  simp only [World.size_alloc] at hown
  have HO := Lib.hid (And.intro hown hb)
  clear hown hown1 hb hb1 hb0
  go_wp2_with (first
    | (go_at_call 53; refine (addMultiple_w p n (w.heap.size + 1) (w.heap.size + 1) l.length l.length l.length 0 (List.replicate l.length 0) l _ w1 (by rw [List.length_replicate]; exact HO.out.1) (HL.out.hold HO.out.2) (HL.out.off (by omega)) (by simp) (Nat.le_refl _) (by simp; omega)).mono ?_; rintro _ w2 ⟨rfl, hown2, hg2⟩; rw [List.length_replicate] at hown2; have hbx2 := grown_cell hg2 hbx (by simp))
    | (go_at_call 44; refine (trim_w p _ _ _ _ hown2 (by rw [updK_len]; simp; omega)).mono ?_; rintro _ w3 ⟨v3, rfl, _, hown3, hg3⟩))
  go_ret
  have h2 := Below.wrote HO.out.2 (by omega) HO.out.2.size HO.out.1 hg2
  exact ⟨_, _, rfl, hown3.low (by omega), HI.out _ (is_trim p _), Below.wrote h2 (by omega) h2.size hown2 hg3⟩
end Go.Proofs.Ytgdnkbigdggbaaa
