/- The walks of package poly's Mul, timesRoot, Vanishing. -/
import Derived.Test.YtgdnkbigdggbaaaOB
namespace Go.Proofs.Ytgdnkbigdggbaaa
open Go.RowKit Go.BigFrame

/-- Between two rounds of Mul. -/
theorem mul_step {p : Int} {ra rb P : List Int} {k : Nat} (h : k < ra.length) (hP : k + rb.length ≤ P.length) (h0 : known p = true → pf p P = Po.cv (pf p (ra.take k)) (pf p rb)) (hk : known p = true) :
    pf p (updK (addL p ra[k] P rb k) P k rb.length) = Po.cv (pf p (ra.take (k + 1))) (pf p rb) := by
  rw [pf_addL hk _ _ _ _ hP, h0 hk, pf_take hk ra h, Po.ad_cv, Po.cv_shn, Po.cv_co]

set_option maxRecDepth 100000 in
set_option maxHeartbeats 8000000 in
theorem oMul_any (p : Int) (va vb : Value) (a b : List Int) (w : World) (hla : Lst w va a) (hlb : Lst w vb b) (hna : a.length ≤ 500) (hnb : b.length ≤ 500) :
    Calls Try.prog 25 #[.agg #[.int .u64 p], va, vb] w (Poly p (Po.cv (pf p a) (pf p b)) w) := by
  have HL := Lib.hid (And.intro hla hlb)
  clear hla hlb
  go_enter Try.func25, Try.ntmps25
  go_upto_region 1 with fail
  refine name_world ?_
  intro W hW
  have hf : W.cell? ⟨w.heap.size, 0, none⟩ = some (.int .u64 p) := by rw [hW]; go_simp
  have hb : Below w.heap.size w W := by rw [hW]; exact Below.made (Nat.le_refl _) (Below.refl _ _) _
  have hsz : w.heap.size < W.heap.size := by rw [hW]; simp
  have HB := Lib.hid hb
  have HA := Lib.hid (And.intro (HL.out.1.hold hb) (HL.out.2.hold hb))
  clear hW hb
  go_cut [1, 2] (fun s1 s2 wx => Below W.heap.size W wx ∧ Own wx W.heap.size s1 (cut0 (a.map (rd p))) ∧ Own wx W.heap.size s2 (cut0 (b.map (rd p))))
  case first =>
    have hcell := fun (w' : World) (h : Below W.heap.size W w') => Below.hold h hf
    have F := Below.refl W.heap.size W
    clear hf
    go_region_held3 (fun w' => Below W.heap.size W w')
      (repeat (first | assumption | refine Below.drew ?_ | refine Below.next (Nat.le_refl _) ?_ (by assumption)))
      (first
        | (go_at_call 15; refine (oTrim_any p _ a _ (HA.out.1.hold (by assumption)) (by omega)).mono ?_; rintro _ w2 ⟨v1, rfl, ho1, hb1⟩)
        | (go_at_call 15; refine (oTrim_any p _ b _ (HA.out.2.hold (by assumption)) (by omega)).mono ?_; rintro _ w3 ⟨v2, rfl, ho2, hb2⟩))
    all_goals
      go_wp2_with fail
      go_meet
      exact ⟨by assumption, (ho1.hold hb2).low (by simp), ho2.low (by have := hb1.size; simpa using this)⟩
  case rest =>
    rename World => wx
    obtain ⟨hbx, ho1, ho2⟩ := hcut
    obtain ⟨ra, hra⟩ : ∃ ra, ra = cut0 (a.map (rd p)) := ⟨_, rfl⟩
    obtain ⟨rb, hrb⟩ : ∃ rb, rb = cut0 (b.map (rd p)) := ⟨_, rfl⟩
    have HI := Lib.hid (show ∀ r, Is p r (Po.cv (pf p ra) (pf p rb)) → Is p r (Po.cv (pf p a) (pf p b)) from fun r h => h.eq fun hk => by rw [hra, hrb, (is_trim p a).pf hk, (is_trim p b).pf hk])
    have hla : ra.length ≤ 500 := by have := cut0_len (a.map (rd p)); rw [← hra] at this; simp at this; omega
    have hlb : rb.length ≤ 500 := by have := cut0_len (b.map (rd p)); rw [← hrb] at this; simp at this; omega
    rw [← hra] at ho1
    rw [← hrb] at ho2
    obtain ⟨N, hN⟩ : ∃ N, N = ra.length + rb.length := ⟨_, rfl⟩
    have hNi : (ra.length : Int) + (rb.length : Int) = (N : Int) := by omega
    have i1 : (ra.length : Int) ≤ 500 := by omega
    have i2 : (rb.length : Int) ≤ 500 := by omega
    have hNn : (N : Int) ≤ 1000 := by omega
    have hN0 : (0 : Int) ≤ (N : Int) := by omega
    have hNw : IntKind.i64.wrap (N : Int) = (N : Int) := by rw [IntKind.wrap_i64]; omega
    obtain ⟨a1, c1, rfl⟩ := ho1.lst.shape
    obtain ⟨a2, c2, rfl⟩ := ho2.lst.shape
    have hf1 := Below.hold hbx hf
    have HX := Lib.hid (Below.next (Nat.le_refl _) HB.out hbx)
    have HQ := Lib.hid (And.intro ho1.lst ho2.lst)
    have hsx : w.heap.size < wx.heap.size := by have := hbx.size; omega
    have HN := Lib.hid hN
    clear hra hrb ho1 ho2 hbx HA HL hf hN
    go_upto_region 3 with (at_make; refine make_zeros rfl (.tmp 20) (.tmp 20) rfl wx.heap.size N rfl rfl (by omega) (Nat.le_refl _) ?_; intro v1 w1 hown1 hv1 hb1; subst hv1)
    have HO := Lib.hid (And.intro hown1 hb1)
    clear hown1 hb1
    go_wp2
    go_loopw [24] (fun iv wr => ∃ (k : Nat) (P : List Int), iv = .int .i64 k ∧ k ≤ ra.length ∧ Own wr wx.heap.size (.slice (some ⟨wx.heap.size, 0, none⟩) N N) P ∧ (known p = true → pf p P = Po.cv (pf p (ra.take k)) (pf p rb)) ∧ Below wx.heap.size wx wr) (fun iv _ => ra.length - (intOf iv).toNat)
    case atStart => exact ⟨0, _, rfl, Nat.zero_le _, HO.out.1, fun hk => by rw [pf_zeros hk, List.take_zero, pf_nil hk, Po.ze_cv], HO.out.2⟩
    case round =>
      obtain ⟨k, P, rfl, hk, hown, hpp, hb⟩ := hrel
      have hPl := hown.len
      have hp := Below.hold hb hf1
      by_cases hlt : k < ra.length
      · obtain ⟨bb, ob, cb, e, hc⟩ := (HQ.out.1.hold hb).cells k hlt
        obtain ⟨rfl, rfl⟩ : a1 = some ⟨bb, ob, none⟩ ∧ c1 = cb := by simp at e; exact e
        clear e
        have hux := HQ.out.1.us ra[k] (List.getElem_mem hlt)
        have hms := mul_step (p := p) (rb := rb) (P := P) hlt (by have := HN.out; omega) hpp
        obtain ⟨x, hx⟩ : ∃ x, x = ra[k] := ⟨_, rfl⟩
        rw [← hx] at hux hc hms
        have i0 : (0 : Int) ≤ (k : Int) := by omega
        have i3 : (k : Int) < (ra.length : Int) := by omega
        have i4 : (k : Int) < (N : Int) := by omega
        have i5 : ¬ (N = k) := by omega
        have HW := Lib.hid (And.intro hown (And.intro hms hb))
        clear hown hms hb hpp hx
        go_wp2_with fail
        have k0 := fun q : NwAt wr => q.nw.hold hp
        refine from_here ?_
        intro q
        refine wp_region_nwt 6 (by kernel_rfl) (by kernel_rfl) ?_
        simp only [List.take_succ_cons, List.take_zero, List.drop_succ_cons, List.drop_zero]
        repeat (go_big_quiet_step ((first | fail)))
        refine wpQuiet_nil ?_
        clear q
        rintro _ ⟨q, rfl⟩
        have hn := HN.out
        go_wp2_with (go_at_call 53; refine (addMultiple_w p x wx.heap.size wx.heap.size _ _ N k P rb _ q.out (by rw [hPl]; exact HW.out.1.hold q.nw.b) ((HQ.out.2.hold HW.out.2.2).hold q.nw.b) (HQ.out.2.off (Nat.le_refl _)) (by omega) (by omega) (by omega)).mono ?_; rintro _ w2 ⟨rfl, hown2, hg2⟩)
        rw [hPl] at hown2
        exact ⟨⟨k + 1, _, by go_num, by omega, hown2, HW.out.2.1, Below.wrote (Below.next (Nat.le_refl _) HW.out.2.2 q.nw.b) (Nat.le_refl _) (Nat.le_trans HW.out.2.2.size q.nw.b.size) (HW.out.1.hold q.nw.b) hg2⟩, by simp [intOf]; omega⟩
      · obtain rfl : k = ra.length := by omega
        rw [List.take_length] at hpp
        have HW := Lib.hid (And.intro hown (And.intro hpp hb))
        clear hown hb hpp
        go_wp2_with (go_at_call 44; refine (trim_w p _ _ _ _ HW.out.1 (by have := HN.out; omega)).mono ?_; rintro _ w2 ⟨v2, rfl, _, hown2, hg2⟩)
        go_ret
        exact ⟨_, _, rfl, hown2.low (by omega), HI.out _ ((is_trim p _).eq HW.out.2.1), Below.next (Nat.le_refl _) HX.out (Below.wrote HW.out.2.2 (Nat.le_refl _) HW.out.2.2.size HW.out.1 hg2)⟩

/-- What is written besides lies in the list's memory, or in new memory. -/
theorem grown_fresh {w a b : World} {row : Option Nat} {g : Nat} (h : w.grownBy a row) (k : a.grownBy b (some g)) (hg : row = some g ∨ w.heap.size ≤ g) : w.grownBy b row := by
  rcases hg with rfl | hg
  · exact grown_trans h k
  · exact ⟨k.os.trans h.os, k.tape.trans h.tape, k.output.trans h.output, Nat.le_trans h.size k.size, fun i hi hr => (k.block i (Nat.lt_of_lt_of_le hi h.size) (by intro e; cases e; omega)).trans (h.block i hi hr)⟩
theorem updK_down {f : Nat → Int} {L : List Int} {o k : Nat} : (updK f L (o + 1) k).set o (f o) = updK f L o (k + 1) := by
  refine List.ext_getElem (by simp [updK_len]) fun i h1 h2 => ?_
  rw [List.getElem_set]
  simp only [updK, List.getElem_map, List.getElem_range]
  by_cases hi : o = i
  · subst hi
    rw [if_pos rfl, if_pos (by omega)]
  · rw [if_neg hi]
    by_cases h3 : o + 1 ≤ i ∧ i < o + 1 + k
    · rw [if_pos h3, if_pos (by omega)]
    · rw [if_neg h3, if_neg (by omega)]
theorem updK_out {f : Nat → Int} {L : List Int} {o k i : Nat} (h : i < L.length) (hi : i < o) : (updK f L o k)[i]'(by rw [updK_len]; exact h) = L[i] := by
  simp only [updK, List.getElem_map, List.getElem_range]
  rw [if_neg (by omega), getD_lt _ h]
theorem updK_mem {f : Nat → Int} {L : List Int} {x : Int} (h : x ∈ updK f L 0 L.length) : ∃ i, x = f i := by
  simp only [updK, List.mem_map, List.mem_range] at h
  obtain ⟨i, hi, rfl⟩ := h
  rw [if_pos (by omega)]
  exact ⟨i, rfl⟩
/-- What timesRoot puts at each place. -/
def trF (p x : Int) (L : List Int) : Nat → Int
  | 0 => sb p 0 (ml p (L.getD 0 0) x)
  | j + 1 => sb p (L.getD j 0) (ml p (L.getD (j + 1) 0) x)
def trL (p x : Int) (l : List Int) : List Int := updK (trF p x (l ++ [0])) (l ++ [0]) 0 (l ++ [0]).length
theorem trL_len (p x : Int) (l : List Int) : (trL p x l).length = l.length + 1 := by rw [trL, updK_len]; simp
theorem snoc_zero_getD (l : List Int) (i : Nat) : (l ++ [0]).getD i 0 = l.getD i 0 := by
  rcases Nat.lt_or_ge i l.length with h | h
  · rw [getD_lt _ h, getD_lt _ (by simp; omega), List.getElem_append_left h]
  · rw [getD_ge l h]
    rcases Nat.lt_or_eq_of_le h with h2 | h2
    · rw [getD_ge _ (by simp; omega)]
    · subst h2; rw [getD_lt _ (by simp)]; simp
theorem pf_trL {p : Int} (hk : known p = true) (x : Int) (l : List Int) : pf p (trL p x l) = Po.cv (Po.xm (ph p x)) (pf p l) := by
  rw [Po.cv_xm]
  funext i
  show ph p _ = (0 - ph p x) * ph p _ + Po.sh (pf p l) i
  rw [trL, updK_getD]
  rcases Nat.lt_or_ge i (l ++ [0]).length with h | h
  · rw [if_pos (by omega)]
    cases i with
    | zero =>
      rw [trF, ph_sb hk, ph_ml hk, ph_zero hk, snoc_zero_getD]
      show _ = _ + (0 : Fin (Q p))
      grind
    | succ j =>
      rw [trF, ph_sb hk, ph_ml hk, snoc_zero_getD, snoc_zero_getD]
      show _ = _ + ph p (l.getD j 0)
      grind
  · have hl : l.length < i := by simp at h; omega
    rw [if_neg (by omega), snoc_zero_getD, getD_ge l (by omega), ph_zero hk]
    obtain ⟨j, rfl⟩ : ∃ j, i = j + 1 := ⟨i - 1, by omega⟩
    show 0 = _ + ph p (l.getD j 0)
    rw [getD_ge l (by omega), ph_zero hk]
    grind
theorem sb_bd {p : Int} (hk : known p = true) (a b : Int) : 0 ≤ sb p a b ∧ sb p a b < p := by
  rw [sb, if_pos hk]
  have := known_lo hk
  exact ⟨Int.emod_nonneg _ (by omega), Int.emod_lt_of_pos _ (by omega)⟩
theorem trL_bd {p : Int} (hk : known p = true) (x : Int) (l : List Int) : ∀ y ∈ trL p x l, 0 ≤ y ∧ y < p := fun y hy => by
  obtain ⟨i, rfl⟩ := updK_mem hy
  cases i <;> exact sb_bd hk _ _

set_option maxRecDepth 100000 in
set_option maxHeartbeats 8000000 in
theorem timesRoot_w (p x : Int) [hxU : U x] (base : Nat) (v : Value) (l : List Int) (w : World) (hown : Own w base v l) (hbase : base ≤ w.heap.size) (hl : l.length ≤ 900) :
    Calls Try.prog 65 #[.agg #[.int .u64 p], v, .int .u64 x] w fun e w' =>
      ∃ g c, e = .returned (.slice (some ⟨g, 0, none⟩) (l.length + 1) c) ∧ Own w' base (.slice (some ⟨g, 0, none⟩) (l.length + 1) c) (trL p x l) ∧ (v.ownBlock = some g ∨ w.heap.size < g) ∧ w.grownBy w' v.ownBlock := by
  have HW := Lib.hid hown
  have hvb : v.ownBlock ≠ some w.heap.size := fun e => by have := (hown.row.lt _ e).2; omega
  clear hown
  have hl1 : (l.length : Int) ≤ 900 := by omega
  go_enter Try.func65, Try.ntmps65
  go_upto_region 1 with fail
  refine name_world ?_
  intro W hW
  have hf : W.cell? ⟨w.heap.size, 0, none⟩ = some (.int .u64 p) := by rw [hW]; go_simp
  have hb : Below w.heap.size w W := by rw [hW]; exact Below.made (Nat.le_refl _) (Below.refl _ _) _
  have hsz : W.heap.size = w.heap.size + 1 := by rw [hW]; simp
  have HB := Lib.hid (And.intro hb hsz)
  clear hW hb hsz
  go_wp2_with (at_builtin; refine append_new rfl (.tmp 8) (.tmp 9) rfl base _ l rfl (HW.out.hold HB.out.1) 0 inferInstance rfl (by omega) (by have := HB.out.2; omega) ?_; intro g c w1 hown1 hgc hg1)
  have hgw := hown1.row.lt g rfl
  have hbx := grown_cell hg1 hf (Ne.symm hvb)
  have hgx : g ≠ w.heap.size := by
    rcases hgc with e | e
    · intro h; rw [h] at e; exact hvb e
    · have := HB.out.2; omega
  obtain ⟨L, hL⟩ : ∃ L, L = l ++ [0] := ⟨_, rfl⟩
  have hLn : L.length = l.length + 1 := by rw [hL]; simp
  rw [← hL] at hown1
  have HO := Lib.hid (And.intro hown1 (And.intro hgc (And.intro hg1 hL)))
  have HLn := Lib.hid hLn
  clear hown1 hgc hg1 hL hf hLn
  go_loopw [7] (fun iv wr => ∃ i : Nat, iv = .int .i64 i ∧ i ≤ l.length ∧ wr.cell? ⟨w.heap.size, 0, none⟩ = some (.int .u64 p) ∧ Own wr base (.slice (some ⟨g, 0, none⟩) (l.length + 1) c) (updK (trF p x L) L (i + 1) (l.length - i)) ∧ w1.grownBy wr (some g)) (fun iv _ => (intOf iv).toNat)
  case atStart => exact ⟨l.length, by go_num, Nat.le_refl _, hbx, by rw [Nat.sub_self, updK_zero]; exact HO.out.1, World.grownBy.refl _ _⟩
  case round =>
    obtain ⟨i, rfl, hi, hp, hown, hg⟩ := hrel
    clear hbx
    cases i with
    | succ j =>
      have hLn := HLn.out
      have hj : j < L.length := by omega
      have hj1 : j + 1 < L.length := by omega
      have hc0 : wr.cell? ⟨g, j, none⟩ = some (.int .u64 L[j]) := by
        rw [hown.cell (by rw [updK_len]; exact hj), updK_out hj (by omega)]
      have hc1 : wr.cell? ⟨g, j + 1, none⟩ = some (.int .u64 L[j + 1]) := by
        rw [hown.cell (by rw [updK_len]; exact hj1), updK_out hj1 (by omega)]
      have hz := hown.thawed (j + 1)
      have hu0 := HO.out.1.us L[j] (List.getElem_mem hj)
      have hu1 := HO.out.1.us L[j + 1] (List.getElem_mem hj1)
      have hset := updK_down (f := trF p x L) (L := L) (o := j + 1) (k := l.length - (j + 1))
      rw [show trF p x L (j + 1) = sb p L[j] (ml p L[j + 1] x) by rw [trF, getD_lt _ hj, getD_lt _ hj1], show l.length - (j + 1) + 1 = l.length - j by omega] at hset
      obtain ⟨y, hy⟩ : ∃ y, y = L[j] := ⟨_, rfl⟩
      obtain ⟨z, hz1⟩ : ∃ z, z = L[j + 1] := ⟨_, rfl⟩
      rw [← hy] at hu0 hc0 hset
      rw [← hz1] at hu1 hc1 hset
      have i0 : (0 : Int) ≤ (j : Int) := by omega
      have i1 : (j : Int) < (l.length : Int) := by omega
      have HV := Lib.hid (And.intro hown (And.intro hg hset))
      rw [show ((j + 1 : Nat) : Int) = (j : Int) + 1 by omega]
      clear hown hg hset hy hz1 hj hj1 hLn
      go_wp2_with fail
      have k0 := fun q : NwAt wr => q.nw.hold hp
      have k1 := fun q : NwAt wr => q.nw.hold hc0
      have k2 := fun q : NwAt wr => q.nw.hold hc1
      have k3 := fun q : NwAt wr => q.nw.holdf hz
      refine from_here ?_
      intro q
      refine wp_region_nwt 17 (by kernel_rfl) (by kernel_rfl) ?_
      simp only [List.take_succ_cons, List.take_zero, List.drop_succ_cons, List.drop_zero]
      repeat (go_big_quiet_step ((first | (go_at_call 55; exact nwAt_of (fMul_u _ _ _ _)) | (go_at_call 51; exact nwAt_of (fSub_u _ _ _ _)))))
      refine wpQuiet_nil ?_
      clear q
      rintro _ ⟨q, rfl⟩
      have j1 := k2 q
      have j3 := k3 q
      clear k1 k3 k2
      go_wp2
      have hs := (HV.out.1.hold q.nw.b).set (j + 1) (sb p y (ml p z x))
      refine ⟨⟨j, by go_num, by omega, ?_, by rw [← HV.out.2.2]; exact hs.1, grown_trans (grown_next HV.out.2.1 q.nw.b) hs.2⟩, by first | (simp [intOf]; done) | (simp [intOf]; omega)⟩
      rw [World.cell?_setCell_far _ _ _ _ hgx]
      exact k0 q
    | zero =>
      have hLn := HLn.out
      have hj : 0 < L.length := by omega
      have hc0 : wr.cell? ⟨g, 0, none⟩ = some (.int .u64 L[0]) := by
        rw [hown.cell (by rw [updK_len]; exact hj), updK_out hj (by omega)]
      have hz := hown.thawed 0
      have hu0 := HO.out.1.us L[0] (List.getElem_mem hj)
      have hset := updK_down (f := trF p x L) (L := L) (o := 0) (k := l.length)
      rw [show trF p x L 0 = sb p 0 (ml p L[0] x) by rw [trF, getD_lt _ hj], ← hLn] at hset
      obtain ⟨y, hy⟩ : ∃ y, y = L[0] := ⟨_, rfl⟩
      rw [← hy] at hu0 hc0 hset
      rw [Nat.sub_zero] at hown
      have HV := Lib.hid (And.intro hown (And.intro hg hset))
      clear hown hg hset hy hj hLn hi
      go_wp2_with fail
      have k0 := fun q : NwAt wr => q.nw.hold hp
      have k1 := fun q : NwAt wr => q.nw.hold hc0
      have k3 := fun q : NwAt wr => q.nw.holdf hz
      refine from_here ?_
      intro q
      refine wp_region_nwt 10 (by kernel_rfl) (by kernel_rfl) ?_
      simp only [List.take_succ_cons, List.take_zero, List.drop_succ_cons, List.drop_zero]
      repeat (go_big_quiet_step ((first | (go_at_call 55; exact nwAt_of (fMul_u _ _ _ _)) | (go_at_call 71; exact nwAt_of (fNeg_u _ _ _)))))
      refine wpQuiet_nil ?_
      clear q
      rintro _ ⟨q, rfl⟩
      have j1 := k1 q
      have j3 := k3 q
      clear k1 k3
      go_wp2
      go_ret
      have hs := (HV.out.1.hold q.nw.b).set 0 (sb p 0 (ml p y x))
      refine ⟨g, c, rfl, ?_, ?_, ?_⟩
      · have h := hs.1
        rw [HV.out.2.2, HO.out.2.2.2] at h
        exact h
      · rcases HO.out.2.1 with e | e
        · exact .inl e
        · right; have := HB.out.2; omega
      · exact grown_fresh (grown_then HB.out.1 HO.out.2.2.1) (grown_trans (grown_next HV.out.2.1 q.nw.b) hs.2) (by
          rcases HO.out.2.1 with e | e
          · exact .inl e
          · right; have := HB.out.2; omega)
end Go.Proofs.Ytgdnkbigdggbaaa
