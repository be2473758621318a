/- The walks of package poly's Mul, timesRoot, Vanishing. The walks of the reference's division, and of its greatest common divisor. What the rounds of package poly's divide keep. The walk of package poly's divide. The walks of package poly's DivMod and GCD. The walk of package poly's GCD. The walks of the reference's test whether points are different, of the product of all X - x, of the interpolation. The walk of the reference's interpolation. What the rounds of package poly's Interpolate keep (Newton's way). The walk of package poly's Vanishing. The walk of package poly's Interpolate. -/
import Derived.Test.YtdcdaclkeocfpaaOB
import Derived.Test.YtdcdaclkeocfpaaRefR
import Derived.Test.YtdcdaclkeocfpaaPolyG
import Derived.Deep.Cut
import Derived.Test.YtdcdaclkeocfpaaBwAt
namespace Go.Proofs.Ytdcdaclkeocfpaa
open Go.RowKit Go.BigFrame

/-- Between two rounds of Mul. -/
theorem mul_step {p : Int} {ra rb P : List Int} {k : Nat} (h : k < ra.length) (hP : k + rb.length ≤ P.length) (h0 : known p = true → pf p P = Po.cv (pf p (ra.take k)) (pf p rb)) (hk : known p = true) :
    pf p (updK (addL p ra[k] P rb k) P k rb.length) = Po.cv (pf p (ra.take (k + 1))) (pf p rb) := by
  rw [pf_addL hk _ _ _ _ hP, h0 hk, pf_take hk ra h, Po.ad_cv, Po.cv_shn, Po.cv_co]

set_option maxRecDepth 100000 in
set_option maxHeartbeats 8000000 in
theorem oMul_any (p : Int) (va vb : Value) (a b : List Int) (w : World) (hla : Lst w va a) (hlb : Lst w vb b) (hna : a.length ≤ 500) (hnb : b.length ≤ 500) :
    Calls Try.prog 54 #[.agg #[.int .u64 p], va, vb] w (Poly p (Po.cv (pf p a) (pf p b)) w) := by
  have HL := Lib.hid (And.intro hla hlb)
  clear hla hlb
  go_enter Try.func54, Try.ntmps54
  go_upto_region 1 with fail
  refine name_world ?_
  intro W hW
  have hf : W.cell? ⟨w.heap.size, 0, none⟩ = some (.int .u64 p) := by rw [hW]; go_simp
  have hb : Below w.heap.size w W := by rw [hW]; exact Below.made (Nat.le_refl _) (Below.refl _ _) _
  have hsz : w.heap.size < W.heap.size := by rw [hW]; simp
  have HB := Lib.hid hb
  have HA := Lib.hid (And.intro (HL.out.1.hold hb) (HL.out.2.hold hb))
  clear hW hb
  go_cut [1, 2] (fun s1 s2 wx => Below W.heap.size W wx ∧ Own wx W.heap.size s1 (cut0 (a.map (rd p))) ∧ Own wx W.heap.size s2 (cut0 (b.map (rd p))))
  case first =>
    have hcell := fun (w' : World) (h : Below W.heap.size W w') => Below.hold h hf
    have F := Below.refl W.heap.size W
    clear hf
    go_region_held3 (fun w' => Below W.heap.size W w')
      (repeat (first | assumption | refine Below.drew ?_ | refine Below.next (Nat.le_refl _) ?_ (by assumption)))
      (first
        | (go_at_call 50; refine (oTrim_any p _ a _ (HA.out.1.hold (by assumption)) (by omega)).mono ?_; rintro _ w2 ⟨v1, rfl, ho1, hb1⟩)
        | (go_at_call 50; refine (oTrim_any p _ b _ (HA.out.2.hold (by assumption)) (by omega)).mono ?_; rintro _ w3 ⟨v2, rfl, ho2, hb2⟩))
    all_goals
      go_wp2_with fail
      go_meet
      exact ⟨by assumption, (ho1.hold hb2).low (by simp), ho2.low (by have := hb1.size; simpa using this)⟩
  case rest =>
    rename World => wx
    obtain ⟨hbx, ho1, ho2⟩ := hcut
    obtain ⟨ra, hra⟩ : ∃ ra, ra = cut0 (a.map (rd p)) := ⟨_, rfl⟩
    obtain ⟨rb, hrb⟩ : ∃ rb, rb = cut0 (b.map (rd p)) := ⟨_, rfl⟩
    have HI := Lib.hid (show ∀ r, Is p r (Po.cv (pf p ra) (pf p rb)) → Is p r (Po.cv (pf p a) (pf p b)) from fun r h => h.eq fun hk => by rw [hra, hrb, (is_trim p a).pf hk, (is_trim p b).pf hk])
    have hla : ra.length ≤ 500 := by have := cut0_len (a.map (rd p)); rw [← hra] at this; simp at this; omega
    have hlb : rb.length ≤ 500 := by have := cut0_len (b.map (rd p)); rw [← hrb] at this; simp at this; omega
    rw [← hra] at ho1
    rw [← hrb] at ho2
    obtain ⟨N, hN⟩ : ∃ N, N = ra.length + rb.length := ⟨_, rfl⟩
    have hNi : (ra.length : Int) + (rb.length : Int) = (N : Int) := by omega
    have i1 : (ra.length : Int) ≤ 500 := by omega
    have i2 : (rb.length : Int) ≤ 500 := by omega
    have hNn : (N : Int) ≤ 1000 := by omega
    have hN0 : (0 : Int) ≤ (N : Int) := by omega
    have hNw : IntKind.i64.wrap (N : Int) = (N : Int) := by rw [IntKind.wrap_i64]; omega
    obtain ⟨a1, c1, rfl⟩ := ho1.lst.shape
    obtain ⟨a2, c2, rfl⟩ := ho2.lst.shape
    have hf1 := Below.hold hbx hf
    have HX := Lib.hid (Below.next (Nat.le_refl _) HB.out hbx)
    have HQ := Lib.hid (And.intro ho1.lst ho2.lst)
    have hsx : w.heap.size < wx.heap.size := by have := hbx.size; omega
    have HN := Lib.hid hN
    clear hra hrb ho1 ho2 hbx HA HL hf hN
    go_upto_region 3 with (at_make; refine make_zeros rfl (.tmp 20) (.tmp 20) rfl wx.heap.size N rfl rfl (by omega) (Nat.le_refl _) ?_; intro v1 w1 hown1 hv1 hb1; subst hv1)
    have HO := Lib.hid (And.intro hown1 hb1)
    clear hown1 hb1
    go_wp2
    go_loopw [24] (fun iv wr => ∃ (k : Nat) (P : List Int), iv = .int .i64 k ∧ k ≤ ra.length ∧ Own wr wx.heap.size (.slice (some ⟨wx.heap.size, 0, none⟩) N N) P ∧ (known p = true → pf p P = Po.cv (pf p (ra.take k)) (pf p rb)) ∧ Below wx.heap.size wx wr) (fun iv _ => ra.length - (intOf iv).toNat)
    case atStart => exact ⟨0, _, rfl, Nat.zero_le _, HO.out.1, fun hk => by rw [pf_zeros hk, List.take_zero, pf_nil hk, Po.ze_cv], HO.out.2⟩
    case round =>
      obtain ⟨k, P, rfl, hk, hown, hpp, hb⟩ := hrel
      have hPl := hown.len
      have hp := Below.hold hb hf1
      by_cases hlt : k < ra.length
      · obtain ⟨bb, ob, cb, e, hc⟩ := (HQ.out.1.hold hb).cells k hlt
        obtain ⟨rfl, rfl⟩ : a1 = some ⟨bb, ob, none⟩ ∧ c1 = cb := by simp at e; exact e
        clear e
        have hux := HQ.out.1.us ra[k] (List.getElem_mem hlt)
        have hms := mul_step (p := p) (rb := rb) (P := P) hlt (by have := HN.out; omega) hpp
        obtain ⟨x, hx⟩ : ∃ x, x = ra[k] := ⟨_, rfl⟩
        rw [← hx] at hux hc hms
        have i0 : (0 : Int) ≤ (k : Int) := by omega
        have i3 : (k : Int) < (ra.length : Int) := by omega
        have i4 : (k : Int) < (N : Int) := by omega
        have i5 : ¬ (N = k) := by omega
        have HW := Lib.hid (And.intro hown (And.intro hms hb))
        clear hown hms hb hpp hx
        go_wp2_with fail
        have k0 := fun q : NwAt wr => q.nw.hold hp
        refine from_here ?_
        intro q
        refine wp_region_nwt 6 (by kernel_rfl) (by kernel_rfl) ?_
        simp only [List.take_succ_cons, List.take_zero, List.drop_succ_cons, List.drop_zero]
        repeat (go_big_quiet_step ((first | fail)))
        refine wpQuiet_nil ?_
        clear q
        rintro _ ⟨q, rfl⟩
        have hn := HN.out
        go_wp2_with (go_at_call 89; refine (addMultiple_w p x wx.heap.size wx.heap.size _ _ N k P rb _ q.out (by rw [hPl]; exact HW.out.1.hold q.nw.b) ((HQ.out.2.hold HW.out.2.2).hold q.nw.b) (HQ.out.2.off (Nat.le_refl _)) (by omega) (by omega) (by omega)).mono ?_; rintro _ w2 ⟨rfl, hown2, hg2⟩)
        rw [hPl] at hown2
        exact ⟨⟨k + 1, _, by go_num, by omega, hown2, HW.out.2.1, Below.wrote (Below.next (Nat.le_refl _) HW.out.2.2 q.nw.b) (Nat.le_refl _) (Nat.le_trans HW.out.2.2.size q.nw.b.size) (HW.out.1.hold q.nw.b) hg2⟩, by simp [intOf]; omega⟩
      · obtain rfl : k = ra.length := by omega
        rw [List.take_length] at hpp
        have HW := Lib.hid (And.intro hown (And.intro hpp hb))
        clear hown hb hpp
        go_wp2_with (go_at_call 92; refine (trim_w p _ _ _ _ HW.out.1 (by have := HN.out; omega)).mono ?_; rintro _ w2 ⟨v2, rfl, _, hown2, hg2⟩)
        go_ret
        exact ⟨_, _, rfl, hown2.low (by omega), HI.out _ ((is_trim p _).eq HW.out.2.1), Below.next (Nat.le_refl _) HX.out (Below.wrote HW.out.2.2 (Nat.le_refl _) HW.out.2.2.size HW.out.1 hg2)⟩

/-- What is written besides lies in the list's memory, or in new memory. -/
theorem grown_fresh {w a b : World} {row : Option Nat} {g : Nat} (h : w.grownBy a row) (k : a.grownBy b (some g)) (hg : row = some g ∨ w.heap.size ≤ g) : w.grownBy b row := by
  rcases hg with rfl | hg
  · exact grown_trans h k
  · exact ⟨k.os.trans h.os, k.tape.trans h.tape, k.output.trans h.output, Nat.le_trans h.size k.size, fun i hi hr => (k.block i (Nat.lt_of_lt_of_le hi h.size) (by intro e; cases e; omega)).trans (h.block i hi hr)⟩
theorem updK_down {f : Nat → Int} {L : List Int} {o k : Nat} : (updK f L (o + 1) k).set o (f o) = updK f L o (k + 1) := by
  refine List.ext_getElem (by simp [updK_len]) fun i h1 h2 => ?_
  rw [List.getElem_set]
  simp only [updK, List.getElem_map, List.getElem_range]
  by_cases hi : o = i
  · subst hi
    rw [if_pos rfl, if_pos (by omega)]
  · rw [if_neg hi]
    by_cases h3 : o + 1 ≤ i ∧ i < o + 1 + k
    · rw [if_pos h3, if_pos (by omega)]
    · rw [if_neg h3, if_neg (by omega)]
theorem updK_out {f : Nat → Int} {L : List Int} {o k i : Nat} (h : i < L.length) (hi : i < o) : (updK f L o k)[i]'(by rw [updK_len]; exact h) = L[i] := by
  simp only [updK, List.getElem_map, List.getElem_range]
  rw [if_neg (by omega), getD_lt _ h]
theorem updK_mem {f : Nat → Int} {L : List Int} {x : Int} (h : x ∈ updK f L 0 L.length) : ∃ i, x = f i := by
  simp only [updK, List.mem_map, List.mem_range] at h
  obtain ⟨i, hi, rfl⟩ := h
  rw [if_pos (by omega)]
  exact ⟨i, rfl⟩
/-- What timesRoot puts at each place. -/
def trF (p x : Int) (L : List Int) : Nat → Int
  | 0 => sb p 0 (ml p (L.getD 0 0) x)
  | j + 1 => sb p (L.getD j 0) (ml p (L.getD (j + 1) 0) x)
def trL (p x : Int) (l : List Int) : List Int := updK (trF p x (l ++ [0])) (l ++ [0]) 0 (l ++ [0]).length
theorem trL_len (p x : Int) (l : List Int) : (trL p x l).length = l.length + 1 := by rw [trL, updK_len]; simp
theorem snoc_zero_getD (l : List Int) (i : Nat) : (l ++ [0]).getD i 0 = l.getD i 0 := by
  rcases Nat.lt_or_ge i l.length with h | h
  · rw [getD_lt _ h, getD_lt _ (by simp; omega), List.getElem_append_left h]
  · rw [getD_ge l h]
    rcases Nat.lt_or_eq_of_le h with h2 | h2
    · rw [getD_ge _ (by simp; omega)]
    · subst h2; rw [getD_lt _ (by simp)]; simp
theorem pf_trL {p : Int} (hk : known p = true) (x : Int) (l : List Int) : pf p (trL p x l) = Po.cv (Po.xm (ph p x)) (pf p l) := by
  rw [Po.cv_xm]
  funext i
  show ph p _ = (0 - ph p x) * ph p _ + Po.sh (pf p l) i
  rw [trL, updK_getD]
  rcases Nat.lt_or_ge i (l ++ [0]).length with h | h
  · rw [if_pos (by omega)]
    cases i with
    | zero =>
      rw [trF, ph_sb hk, ph_ml hk, ph_zero hk, snoc_zero_getD]
      show _ = _ + (0 : Fin (Q p))
      grind
    | succ j =>
      rw [trF, ph_sb hk, ph_ml hk, snoc_zero_getD, snoc_zero_getD]
      show _ = _ + ph p (l.getD j 0)
      grind
  · have hl : l.length < i := by simp at h; omega
    rw [if_neg (by omega), snoc_zero_getD, getD_ge l (by omega), ph_zero hk]
    obtain ⟨j, rfl⟩ : ∃ j, i = j + 1 := ⟨i - 1, by omega⟩
    show 0 = _ + ph p (l.getD j 0)
    rw [getD_ge l (by omega), ph_zero hk]
    grind
theorem sb_bd {p : Int} (hk : known p = true) (a b : Int) : 0 ≤ sb p a b ∧ sb p a b < p := by
  rw [sb, if_pos hk]
  have := known_lo hk
  exact ⟨Int.emod_nonneg _ (by omega), Int.emod_lt_of_pos _ (by omega)⟩
theorem trL_bd {p : Int} (hk : known p = true) (x : Int) (l : List Int) : ∀ y ∈ trL p x l, 0 ≤ y ∧ y < p := fun y hy => by
  obtain ⟨i, rfl⟩ := updK_mem hy
  cases i <;> exact sb_bd hk _ _

set_option maxRecDepth 100000 in
set_option maxHeartbeats 8000000 in
theorem timesRoot_w (p x : Int) [hxU : U x] (base : Nat) (v : Value) (l : List Int) (w : World) (hown : Own w base v l) (hbase : base ≤ w.heap.size) (hl : l.length ≤ 900) :
    Calls Try.prog 91 #[.agg #[.int .u64 p], v, .int .u64 x] w fun e w' =>
      ∃ g c, e = .returned (.slice (some ⟨g, 0, none⟩) (l.length + 1) c) ∧ Own w' base (.slice (some ⟨g, 0, none⟩) (l.length + 1) c) (trL p x l) ∧ (v.ownBlock = some g ∨ w.heap.size < g) ∧ w.grownBy w' v.ownBlock := by
  have HW := Lib.hid hown
  have hvb : v.ownBlock ≠ some w.heap.size := fun e => by have := (hown.row.lt _ e).2; omega
  clear hown
  have hl1 : (l.length : Int) ≤ 900 := by omega
  go_enter Try.func91, Try.ntmps91
  go_upto_region 1 with fail
  refine name_world ?_
  intro W hW
  have hf : W.cell? ⟨w.heap.size, 0, none⟩ = some (.int .u64 p) := by rw [hW]; go_simp
  have hb : Below w.heap.size w W := by rw [hW]; exact Below.made (Nat.le_refl _) (Below.refl _ _) _
  have hsz : W.heap.size = w.heap.size + 1 := by rw [hW]; simp
  have HB := Lib.hid (And.intro hb hsz)
  clear hW hb hsz
  go_wp2_with (at_builtin; refine append_new rfl (.tmp 8) (.tmp 9) rfl base _ l rfl (HW.out.hold HB.out.1) 0 inferInstance rfl (by omega) (by have := HB.out.2; omega) ?_; intro g c w1 hown1 hgc hg1)
  have hgw := hown1.row.lt g rfl
  have hbx := grown_cell hg1 hf (Ne.symm hvb)
  have hgx : g ≠ w.heap.size := by
    rcases hgc with e | e
    · intro h; rw [h] at e; exact hvb e
    · have := HB.out.2; omega
  obtain ⟨L, hL⟩ : ∃ L, L = l ++ [0] := ⟨_, rfl⟩
  have hLn : L.length = l.length + 1 := by rw [hL]; simp
  rw [← hL] at hown1
  have HO := Lib.hid (And.intro hown1 (And.intro hgc (And.intro hg1 hL)))
  have HLn := Lib.hid hLn
  clear hown1 hgc hg1 hL hf hLn
  go_loopw [7] (fun iv wr => ∃ i : Nat, iv = .int .i64 i ∧ i ≤ l.length ∧ wr.cell? ⟨w.heap.size, 0, none⟩ = some (.int .u64 p) ∧ Own wr base (.slice (some ⟨g, 0, none⟩) (l.length + 1) c) (updK (trF p x L) L (i + 1) (l.length - i)) ∧ w1.grownBy wr (some g)) (fun iv _ => (intOf iv).toNat)
  case atStart => exact ⟨l.length, by go_num, Nat.le_refl _, hbx, by rw [Nat.sub_self, updK_zero]; exact HO.out.1, World.grownBy.refl _ _⟩
  case round =>
    obtain ⟨i, rfl, hi, hp, hown, hg⟩ := hrel
    clear hbx
    cases i with
    | succ j =>
      have hLn := HLn.out
      have hj : j < L.length := by omega
      have hj1 : j + 1 < L.length := by omega
      have hc0 : wr.cell? ⟨g, j, none⟩ = some (.int .u64 L[j]) := by
        rw [hown.cell (by rw [updK_len]; exact hj), updK_out hj (by omega)]
      have hc1 : wr.cell? ⟨g, j + 1, none⟩ = some (.int .u64 L[j + 1]) := by
        rw [hown.cell (by rw [updK_len]; exact hj1), updK_out hj1 (by omega)]
      have hz := hown.thawed (j + 1)
      have hu0 := HO.out.1.us L[j] (List.getElem_mem hj)
      have hu1 := HO.out.1.us L[j + 1] (List.getElem_mem hj1)
      have hset := updK_down (f := trF p x L) (L := L) (o := j + 1) (k := l.length - (j + 1))
      rw [show trF p x L (j + 1) = sb p L[j] (ml p L[j + 1] x) by rw [trF, getD_lt _ hj, getD_lt _ hj1], show l.length - (j + 1) + 1 = l.length - j by omega] at hset
      obtain ⟨y, hy⟩ : ∃ y, y = L[j] := ⟨_, rfl⟩
      obtain ⟨z, hz1⟩ : ∃ z, z = L[j + 1] := ⟨_, rfl⟩
      rw [← hy] at hu0 hc0 hset
      rw [← hz1] at hu1 hc1 hset
      have i0 : (0 : Int) ≤ (j : Int) := by omega
      have i1 : (j : Int) < (l.length : Int) := by omega
      have HV := Lib.hid (And.intro hown (And.intro hg hset))
      rw [show ((j + 1 : Nat) : Int) = (j : Int) + 1 by omega]
      clear hown hg hset hy hz1 hj hj1 hLn
      go_wp2_with fail
      have k0 := fun q : NwAt wr => q.nw.hold hp
      have k1 := fun q : NwAt wr => q.nw.hold hc0
      have k2 := fun q : NwAt wr => q.nw.hold hc1
      have k3 := fun q : NwAt wr => q.nw.holdf hz
      refine from_here ?_
      intro q
      refine wp_region_nwt 17 (by kernel_rfl) (by kernel_rfl) ?_
      simp only [List.take_succ_cons, List.take_zero, List.drop_succ_cons, List.drop_zero]
      repeat (go_big_quiet_step ((first | (go_at_call 38; exact nwAt_of (fMul_u _ _ _ _)) | (go_at_call 88; exact nwAt_of (fSub_u _ _ _ _)))))
      refine wpQuiet_nil ?_
      clear q
      rintro _ ⟨q, rfl⟩
      have j1 := k2 q
      have j3 := k3 q
      clear k1 k3 k2
      go_wp2
      have hs := (HV.out.1.hold q.nw.b).set (j + 1) (sb p y (ml p z x))
      refine ⟨⟨j, by go_num, by omega, ?_, by rw [← HV.out.2.2]; exact hs.1, grown_trans (grown_next HV.out.2.1 q.nw.b) hs.2⟩, by first | (simp [intOf]; done) | (simp [intOf]; omega)⟩
      rw [World.cell?_setCell_far _ _ _ _ hgx]
      exact k0 q
    | zero =>
      have hLn := HLn.out
      have hj : 0 < L.length := by omega
      have hc0 : wr.cell? ⟨g, 0, none⟩ = some (.int .u64 L[0]) := by
        rw [hown.cell (by rw [updK_len]; exact hj), updK_out hj (by omega)]
      have hz := hown.thawed 0
      have hu0 := HO.out.1.us L[0] (List.getElem_mem hj)
      have hset := updK_down (f := trF p x L) (L := L) (o := 0) (k := l.length)
      rw [show trF p x L 0 = sb p 0 (ml p L[0] x) by rw [trF, getD_lt _ hj], ← hLn] at hset
      obtain ⟨y, hy⟩ : ∃ y, y = L[0] := ⟨_, rfl⟩
      rw [← hy] at hu0 hc0 hset
      rw [Nat.sub_zero] at hown
      have HV := Lib.hid (And.intro hown (And.intro hg hset))
      clear hown hg hset hy hj hLn hi
      go_wp2_with fail
      have k0 := fun q : NwAt wr => q.nw.hold hp
      have k1 := fun q : NwAt wr => q.nw.hold hc0
      have k3 := fun q : NwAt wr => q.nw.holdf hz
      refine from_here ?_
      intro q
      refine wp_region_nwt 10 (by kernel_rfl) (by kernel_rfl) ?_
      simp only [List.take_succ_cons, List.take_zero, List.drop_succ_cons, List.drop_zero]
      repeat (go_big_quiet_step ((first | (go_at_call 38; exact nwAt_of (fMul_u _ _ _ _)) | (go_at_call 68; exact nwAt_of (fNeg_u _ _ _)))))
      refine wpQuiet_nil ?_
      clear q
      rintro _ ⟨q, rfl⟩
      have j1 := k1 q
      have j3 := k3 q
      clear k1 k3
      go_wp2
      go_ret
      have hs := (HV.out.1.hold q.nw.b).set 0 (sb p 0 (ml p y x))
      refine ⟨g, c, rfl, ?_, ?_, ?_⟩
      · have h := hs.1
        rw [HV.out.2.2, HO.out.2.2.2] at h
        exact h
      · rcases HO.out.2.1 with e | e
        · exact .inl e
        · right; have := HB.out.2; omega
      · exact grown_fresh (grown_then HB.out.1 HO.out.2.2.1) (grown_trans (grown_next HV.out.2.1 q.nw.b) hs.2) (by
          rcases HO.out.2.1 with e | e
          · exact .inl e
          · right; have := HB.out.2; omega)
end Go.Proofs.Ytdcdaclkeocfpaa

namespace Go.Proofs.Ytdcdaclkeocfpaa
open Go.RowKit

theorem pf_one {p : Int} (hk : known p = true) (c : Int) : pf p [c] = Po.co (ph p c) := funext fun i => by
  cases i with
  | zero => rfl
  | succ i => show ph p _ = 0; rw [getD_ge _ (by simp), ph_zero hk]
theorem pf_at {p : Int} (l : List Int) {i : Nat} (h : i < l.length) : pf p l i = ph p l[i] := by show ph p _ = _; rw [getD_lt _ h]
theorem Is.nf {p : Int} {r : List Int} {f : Nat → Fin (Q p)} (h : Is p r f) (hk : known p = true) : NF p r := by
  unfold Is at h; rw [if_pos hk] at h; exact h.1
theorem Is.top {p : Int} {r : List Int} {f : Nat → Fin (Q p)} (h : Is p r f) (hk : known p = true) {n : Nat} (hr : r.length = n + 1) : f n ≠ 0 ∧ Po.Deg f (n + 1) := by
  have hne : r ≠ [] := by intro e; rw [e] at hr; simp at hr
  have h1 := nf_top hk (h.nf hk) hne
  rw [h.pf hk, hr] at h1
  refine ⟨h1, ?_⟩
  rw [← h.pf hk, ← hr]
  exact pf_deg hk r
theorem last_ne {p : Int} {r : List Int} (h : NF p r) {n : Nat} (hr : r.length = n + 1) : r[n] % p ≠ 0 := by
  have hne : r ≠ [] := by intro e; rw [e] at hr; simp at hr
  have h1 := h.2 hne
  rw [List.getLast_eq_getElem] at h1
  have e : r[r.length - 1] = r[n] := by congr 1; omega
  rw [e] at h1
  have h2 := h.1 r[n] (List.getElem_mem _)
  rw [Int.emod_eq_of_lt h2.1 h2.2]
  exact h1

theorem lit1 (w : World) (c : Int) [hc : U c] : Lst (w.alloc (.cells #[.int .u64 c] 22)) (.slice (some ⟨w.heap.size, 0, none⟩) 1 1) [c] :=
  ⟨.inr ⟨_, _, rfl⟩, fun i hi => by
    obtain rfl : i = 0 := by simp at hi; exact hi
    exact ⟨_, _, _, rfl, by go_simp⟩, fun y hy => by simp at hy; subst hy; exact hc, fun a n k e => by cases e; exact Nat.le_refl _⟩

/-- A quotient and a remainder are returned. -/
def Quot (p : Int) (f b : Nat → Fin (Q p)) (w : World) (e : Ending) (w' : World) : Prop :=
  ∃ v1 v2 r1 r2, e = .returned (.tuple #[v1, v2]) ∧ Own w' w.heap.size v1 r1 ∧ Own w' w.heap.size v2 r2 ∧ (∃ u r, Is p r1 u ∧ Is p r2 r ∧ Po.DivOf f b u r) ∧ r1.length ≤ 1001 ∧ r2.length ≤ 1000 ∧ Below w.heap.size w w'

/-- What stays in the rounds of the division. -/
structure DivSt (p : Int) (A B : Nat → Fin (Q p)) (a qs : List Int) : Prop where
  nfa : NF p a
  nfq : NF p qs
  eq : Po.ad (Po.cv (pf p qs) B) (pf p a) = A
  la : a.length ≤ 1000
  lq : qs.length ≤ 1001
theorem DivSt.step {p : Int} (hk : known p = true) {A : Nat → Fin (Q p)} {a b qs q2 a2 t : List Int} {n m : Nat} {c : Int} (h : DivSt p A (pf p b) a qs) (hb : b.length = m + 1) (ha : a.length = n + m + 1)
    (hc : ph p c * ph p b[m] = ph p a[n + m]) (ht : t = List.replicate n 0 ++ [c]) {tb : List Int} (htb : Is p tb (Po.cv (pf p t) (pf p b))) (hq : Is p q2 (Po.ad (pf p qs) (pf p t))) (h2 : Is p a2 (Po.sb (pf p a) (pf p tb))) :
    DivSt p A (pf p b) a2 q2 ∧ a2.length ≤ n + m := by
  have et : pf p t = Po.shn n (Po.co (ph p c)) := by rw [ht, pf_shift hk, pf_one hk]
  have hr := Po.div_round (n := n) (c := ph p c) h.eq (by rw [← hb]; exact pf_deg hk b) (by rw [← ha]; exact pf_deg hk a) (by rw [pf_at b (by omega), pf_at a (by omega)]; exact hc)
  rw [← et] at hr
  have hq' := hq.pf hk
  have ha' := h2.pf hk
  rw [htb.pf hk] at ha'
  have hl : a2.length ≤ n + m := nf_len hk (h2.nf hk) (by rw [ha']; exact hr.2)
  refine ⟨⟨h2.nf hk, hq.nf hk, by rw [hq', ha']; exact hr.1, ?_, ?_⟩, hl⟩
  · have := h.la; omega
  · refine nf_len hk (hq.nf hk) ?_
    rw [hq']
    refine Po.Deg.ad ((pf_deg hk qs).mono h.lq) ?_
    have := pf_deg hk t
    rw [ht] at this ⊢
    refine this.mono ?_
    have := h.la
    simp
    omega

/-- What stays in the rounds of Euclid's algorithm. -/
structure GcdSt (p : Int) (A B : Nat → Fin (Q p)) (x y : List Int) : Prop where
  nx : Is p x (pf p x)
  ny : Is p y (pf p y)
  combs : known p = true → Po.Comb A B (pf p x) ∧ Po.Comb A B (pf p y) ∧ Po.Comb (pf p x) (pf p y) A ∧ Po.Comb (pf p x) (pf p y) B
  lx : x.length ≤ 500
  ly : y.length ≤ 500
theorem GcdSt.nz {p : Int} {A B : Nat → Fin (Q p)} {x y : List Int} (h : GcdSt p A B x y) (hy : y ≠ []) : known p = true ∧ pf p y ≠ Po.ze := by
  cases hk : known p with
  | false => exact absurd (h.ny.nil hk) hy
  | true =>
    refine ⟨rfl, fun e => ?_⟩
    have := nf_top hk (h.ny.nf hk) hy
    rw [e] at this
    exact this rfl
theorem GcdSt.step {p : Int} {A B : Nat → Fin (Q p)} {x y r1 r2 : List Int} (h : GcdSt p A B x y) (hy : y ≠ []) (hq : ∃ u r, Is p r1 u ∧ Is p r2 r ∧ Po.DivOf (pf p x) (pf p y) u r) : GcdSt p A B y r2 ∧ r2.length < y.length := by
  obtain ⟨hk, hnz⟩ := h.nz hy
  obtain ⟨u, r, i1, i2, e, m, hb, hbm, hr⟩ := hq
  have h1 : r2.length ≤ m := i2.len hr
  have h2 : m < y.length := Nat.lt_of_not_le fun hle => hbm (pf_deg hk y m hle)
  obtain ⟨c1, c2, c3, c4⟩ := h.combs hk
  have hu : Po.Deg u r1.length := by rw [← i1.pf hk]; exact pf_deg hk r1
  obtain ⟨d1, d2, d3⟩ := Po.euclid_round hu e c1 c2 c3 c4
  have er : pf p r2 = r := i2.pf hk
  exact ⟨⟨h.ny, by rw [er]; exact i2, fun _ => by rw [er]; exact ⟨c2, d1, d2, d3⟩, h.ly, by have := h.ly; omega⟩, by omega⟩
theorem is_self {p : Int} {x : List Int} {f : Nat → Fin (Q p)} (h : Is p x f) : Is p x (pf p x) := by
  unfold Is at h ⊢
  split
  · rename_i hk; rw [if_pos hk] at h; exact ⟨h.1, rfl⟩
  · rename_i hk; rw [if_neg hk] at h; exact h

end Go.Proofs.Ytdcdaclkeocfpaa

namespace Go.Proofs.Ytdcdaclkeocfpaa
open Go.RowKit

/-- When k of N rounds are over: the quotient so far, and what is left. -/
structure DivM (p : Int) (A Bl : List Int) (N k : Nat) (q a : List Int) : Prop where
  sum : Po.ad (Po.cv (pf p q) (pf p Bl)) (pf p a) = pf p A
  zeros : ∀ j, j < N - k → q.getD j 0 = 0
  red : ∀ y ∈ q, 0 ≤ y ∧ y < p
  top : 0 < k → q.getD (N - 1) 0 ≠ 0
  first : k = 0 → a = A
  lq : q.length = N

theorem ml_bd {p : Int} (hk : known p = true) (a b : Int) : 0 ≤ ml p a b ∧ ml p a b < p := by
  rw [ml, if_pos hk]
  have := known_lo hk
  exact ⟨Int.emod_nonneg _ (by omega), Int.emod_lt_of_pos _ (by omega)⟩
theorem DivM.start {p : Int} (hk : known p = true) (A Bl : List Int) (N : Nat) : DivM p A Bl N 0 (List.replicate N 0) A where
  sum := by rw [pf_zeros hk, Po.ze_cv, Po.ze_ad]
  zeros := fun j hj => by rw [getD_lt _ (by simp; omega)]; simp
  red := fun y hy => by rw [(List.mem_replicate.1 hy).2]; have := known_lo hk; omega
  top := fun h => by omega
  first := fun _ => rfl
  lq := by simp
theorem pf_set {p : Int} {q : List Int} {i : Nat} (hi : i < q.length) (h0 : q.getD i 0 = 0) (c : Int) (hk : known p = true) : pf p (q.set i c) = Po.ad (pf p q) (Po.shn i (Po.co (ph p c))) := funext fun j => by
  show ph p _ = ph p _ + _
  rcases Nat.lt_trichotomy j i with h | rfl | h
  · rw [Po.shn_low _ _ _ h]
    have e : (q.set i c).getD j 0 = q.getD j 0 := by rw [getD_lt _ (by simp; omega), getD_lt _ (by omega), List.getElem_set_ne (by omega)]
    rw [e]; grind
  · have e : (q.set j c).getD j 0 = c := by rw [getD_lt _ (by simp; omega), List.getElem_set_self]
    have e2 := Po.shn_at (Po.co (ph p c)) j 0
    rw [Nat.add_zero] at e2
    rw [e, e2, h0, ph_zero hk]
    show _ = 0 + ph p c
    grind
  · obtain ⟨d, rfl⟩ : ∃ d, j = i + (d + 1) := ⟨j - i - 1, by omega⟩
    rw [Po.shn_at]
    have e : (q.set i c).getD (i + (d + 1)) 0 = q.getD (i + (d + 1)) 0 := by
      rcases Nat.lt_or_ge (i + (d + 1)) q.length with h | h
      · rw [getD_lt _ (by simp; omega), getD_lt _ h, List.getElem_set_ne (by omega)]
      · rw [getD_ge _ (by simp; omega), getD_ge _ h]
    rw [e]
    show _ = _ + (0 : Fin (Q p))
    grind
theorem pf_less {p : Int} (hk : known p = true) (a : List Int) {n : Nat} (h : Po.Deg (pf p a) n) : pf p (a.take n) = pf p a := funext fun i => by
  rcases Nat.lt_or_ge i n with h1 | h1
  · show ph p _ = ph p _
    congr 1
    rcases Nat.lt_or_ge i a.length with h2 | h2
    · rw [getD_lt _ (by simp; omega), getD_lt _ h2, List.getElem_take]
    · rw [getD_ge _ (by simp; omega), getD_ge _ h2]
  · rw [h i h1]
    show ph p _ = 0
    rw [getD_ge _ (by simp; omega), ph_zero hk]
theorem ml_unit {p a b : Int} (hk : known p = true) (hb0 : 0 ≤ b) (hb : b % p ≠ 0) (ha : a % p ≠ 0) : ml p a (iv p b) ≠ 0 := fun h => by
  have h1 := ph_iv hk hb0 hb
  have h2 := ph_ml hk a (iv p b)
  rw [h, ph_zero hk] at h2
  refine ha ((ph_eq_zero hk a).1 ?_)
  have : ph p a = ph p a * (ph p (iv p b) * ph p b) := by rw [h1]; grind
  rw [this]
  have h3 : ph p a * (ph p (iv p b) * ph p b) = (ph p a * ph p (iv p b)) * ph p b := by grind
  rw [h3, ← h2]
  grind
theorem DivM.step {p : Int} (hk : known p = true) {A Bl q a : List Int} {N k n m : Nat} (hA : NF p A) (h : DivM p A Bl N k q a) (hkN : k < N) (hn : n = N - 1 - k) (hBl : Bl.length = m + 1) (hb0 : 0 ≤ Bl[m]) (hb : Bl[m] % p ≠ 0) (ha : a.length = n + m + 1) :
    DivM p A Bl N (k + 1) (q.set n (ml p a[n + m] (iv p Bl[m]))) ((updK (addL p (sb p 0 (ml p a[n + m] (iv p Bl[m]))) a Bl n) a n Bl.length).take (n + m)) := by
  obtain ⟨c, hc⟩ : ∃ c, c = ml p a[n + m] (iv p Bl[m]) := ⟨_, rfl⟩
  have hlq := h.lq
  rw [← hc]
  have hcb : ph p c * ph p Bl[m] = ph p a[n + m] := by
    have h1 := ph_iv hk hb0 hb
    rw [hc, ph_ml hk]
    have : ph p a[n + m] * ph p (iv p Bl[m]) * ph p Bl[m] = ph p a[n + m] * (ph p (iv p Bl[m]) * ph p Bl[m]) := by grind
    rw [this, h1]; grind
  have hr := Po.div_round (n := n) (c := ph p c) h.sum (by rw [← hBl]; exact pf_deg hk Bl) (by rw [← ha]; exact pf_deg hk a) (by rw [pf_at Bl (by omega), pf_at a (by omega)]; exact hcb)
  have hq : pf p (q.set n c) = Po.ad (pf p q) (Po.shn n (Po.co (ph p c))) := pf_set (by omega) (h.zeros n (by omega)) c hk
  have hupd : pf p (updK (addL p (sb p 0 c) a Bl n) a n Bl.length) = Po.sb (pf p a) (Po.cv (Po.shn n (Po.co (ph p c))) (pf p Bl)) := by
    rw [pf_addL hk _ _ _ _ (by omega), Po.cv_shn, Po.cv_co]
    funext i
    show _ + _ = _ - _
    rcases Nat.lt_or_ge i n with h1 | h1
    · rw [Po.shn_low _ _ _ h1, Po.shn_low _ _ _ h1]; grind
    · obtain ⟨j, rfl⟩ : ∃ j, i = n + j := ⟨i - n, by omega⟩
      rw [Po.shn_at, Po.shn_at]
      show _ + ph p _ * _ = _ - _ * _
      rw [ph_sb hk, ph_zero hk]; grind
  refine ⟨?_, fun j hj => ?_, fun y hy => ?_, fun _ => ?_, fun h0 => by omega, by simpa using hlq⟩
  · rw [pf_less hk _ (by rw [hupd]; exact hr.2), hupd, hq]
    exact hr.1
  · have hj2 : j < n := by omega
    rw [getD_lt _ (by simp; omega), List.getElem_set_ne (by omega), ← getD_lt _ (by omega)]
    exact h.zeros j (by omega)
  · rcases List.mem_or_eq_of_mem_set hy with hy | rfl
    · exact h.red y hy
    · rw [hc]; exact ml_bd hk _ _
  · by_cases h0 : k = 0
    · have e := h.first h0
      have hn1 : N - 1 = n := by omega
      rw [hn1, getD_lt _ (by simp; omega), List.getElem_set_self, hc]
      refine ml_unit hk hb0 hb ?_
      subst e
      have := last_ne hA (n := n + m) ha
      exact this
    · rw [getD_lt _ (by simp; omega), List.getElem_set_ne (by omega), ← getD_lt _ (by omega)]
      exact h.top (by omega)
/-- What the division comes to. -/
theorem DivM.done {p : Int} (hk : known p = true) {A Bl q a : List Int} {N m : Nat} (h : DivM p A Bl N N q a) (hBl : Bl.length = m + 1) (hb : Bl[m] % p ≠ 0) (ha : a.length ≤ m) :
    NF p q ∧ Po.DivOf (pf p A) (pf p Bl) (pf p q) (pf p a) := by
  refine ⟨⟨h.red, fun hne h0 => ?_⟩, h.sum, m, by rw [← hBl]; exact pf_deg hk Bl, ?_, (pf_deg hk a).mono ha⟩
  · have hl := h.lq
    have hp : 0 < q.length := List.length_pos_iff.2 hne
    rw [List.getLast_eq_getElem] at h0
    refine h.top (by omega) ?_
    rw [getD_lt _ (by omega), ← h0]
    congr 1; omega
  · rw [pf_at Bl (by omega)]
    exact fun e => hb ((ph_eq_zero hk _).1 e)
end Go.Proofs.Ytdcdaclkeocfpaa

namespace Go.Proofs.Ytdcdaclkeocfpaa
open Go.RowKit Go.Shelf Go.BigFrame
attribute [local go_sem] Oper.semAt_some

theorem Own.turned {W W' : World} {base : Nat} {v : Value} {l : List Int} {row : Option Nat} (h : Own W base v l) (hg : W.grownBy W' row) (hr : ∀ r, row = some r → ∃ o : Obj, W.heap[r]? = some o ∧ o.isCells = false) : Own W' base v l := by
  refine h.kept hg ?_
  rcases h.row.2 with ⟨e, _⟩ | ⟨g, cap, cur, e, hb, hc, _⟩
  · rw [e]; exact .inl rfl
  · right
    intro h1
    rw [e] at h1
    obtain ⟨o, ho, hn⟩ := hr g h1.symm
    rw [hc] at ho
    cases ho
    cases hn
theorem Lst.turned {W W' : World} {v : Value} {l : List Int} {row : Option Nat} (h : Lst W v l) (hg : W.grownBy W' row) (hr : ∀ r, row = some r → ∃ o : Obj, W.heap[r]? = some o ∧ o.isCells = false) : Lst W' v l :=
  ⟨h.form, fun i hi => by obtain ⟨b, o, c, e, hc⟩ := h.cells i hi; exact ⟨b, o, c, e, cell_kept hc hg hr⟩, h.us, h.room⟩
theorem grown_past {w a b : World} {row row' : Option Nat} (h : w.grownBy a row) (k : a.grownBy b row') (hr : ∀ r, row' = some r → w.heap.size ≤ r) : w.grownBy b row :=
  ⟨k.os.trans h.os, k.tape.trans h.tape, k.output.trans h.output, Nat.le_trans h.size k.size, fun i hi hn => (k.block i (Nat.lt_of_lt_of_le hi h.size) (by intro e; have := hr i e.symm; omega)).trans (h.block i hi hn)⟩

/-- What lies there between two rounds of divide. -/
structure DvP (p inv : Int) (Bl : List Int) (N : Nat) (w : World) (base : Nat) (a0 : Option Addr) (c0 : Nat) (vb : Value) (h BQ BI BS M : Nat) (W : World) (q a : List Int) : Prop where
  cf : W.cell? ⟨w.heap.size, 0, none⟩ = some (.int .u64 p)
  ca : W.cell? ⟨w.heap.size + 1, 0, none⟩ = some (.slice a0 M c0)
  cz : W.frozen? ⟨w.heap.size + 1, 0, none⟩ = false
  cb : W.cell? ⟨w.heap.size + 1 + 1, 0, none⟩ = some vb
  cq : W.cell? ⟨BQ, 0, none⟩ = some (.slice (some ⟨h, 0, none⟩) N N)
  ci : W.cell? ⟨BI, 0, none⟩ = some (.int .u64 inv)
  cs : W.cell? ⟨BS, 0, none⟩ = some (.slice (some ⟨h, 0, none⟩) N N)
  oa : Own W base (.slice a0 M c0) a
  oq : Own W h (.slice (some ⟨h, 0, none⟩) N N) q
  lb : Lst W vb Bl
  g : w.grownBy W (Value.slice a0 M c0).ownBlock
/-- Which memory is which. -/
structure DvA (w : World) (a0 : Option Addr) (c0 : Nat) (vb : Value) (Bl : List Int) (h BQ BI BS : Nat) : Prop where
  hh : h = w.heap.size + 3
  bq : h < BQ
  bi : h < BI
  bs : h < BS
  aw : ∀ M r, (Value.slice a0 M c0).ownBlock = some r → r < w.heap.size
  bw : 0 < Bl.length → ∀ r, vb.ownBlock = some r → r < w.heap.size
  ab : ∀ M r, (Value.slice a0 M c0).ownBlock = some r → vb.ownBlock ≠ some r
theorem own_block_len (a0 : Option Addr) (M M' c0 : Nat) : (Value.slice a0 M c0).ownBlock = (Value.slice a0 M' c0).ownBlock := by cases a0 <;> rfl
section
variable {p inv : Int} {Bl : List Int} {N : Nat} {w : World} {base : Nat} {a0 : Option Addr} {c0 : Nat} {vb : Value} {h BQ BI BS M : Nat} {W : World} {q a : List Int}
theorem DvP.nw {W' : World} (d : DvP p inv Bl N w base a0 c0 vb h BQ BI BS M W q a) (k : Nw W.heap.size W W') : DvP p inv Bl N w base a0 c0 vb h BQ BI BS M W' q a :=
  ⟨k.hold d.cf, k.hold d.ca, (k.f _).trans d.cz, k.hold d.cb, k.hold d.cq, k.hold d.ci, k.hold d.cs, d.oa.hold k.b, d.oq.hold k.b, d.lb.hold k.b, grown_next d.g k.b⟩
theorem DvP.setq (hA : DvA w a0 c0 vb Bl h BQ BI BS) (d : DvP p inv Bl N w base a0 c0 vb h BQ BI BS M W q a) (n : Nat) (c : Int) [U c] : DvP p inv Bl N w base a0 c0 vb h BQ BI BS M (W.setCell ⟨h, n, none⟩ (.int .u64 c)) (q.set n c) a := by
  have hs := d.oq.set n c
  have hw := hA.hh
  have e1 := hA.bq
  have e2 := hA.bi
  have e3 := hA.bs
  have far : ∀ {x : Addr} {v : Value}, x.block ≠ h → W.cell? x = some v → (W.setCell ⟨h, n, none⟩ (.int .u64 c)).cell? x = some v := fun hx hv => (World.cell?_setCell_far _ _ _ _ (Ne.symm hx)).trans hv
  refine ⟨far (by show w.heap.size ≠ h; omega) d.cf, far (by show w.heap.size + 1 ≠ h; omega) d.ca, (World.frozen?_setCell _ _ _ _).trans d.cz, far (by show w.heap.size + 1 + 1 ≠ h; omega) d.cb, far (by show BQ ≠ h; omega) d.cq, far (by show BI ≠ h; omega) d.ci, far (by show BS ≠ h; omega) d.cs,
    d.oa.kept hs.2 (.inr fun e => ?_), hs.1, d.lb.kept hs.2 (fun hl e => ?_), grown_past d.g hs.2 (fun r e => by cases e; omega)⟩
  · have := hA.aw _ _ e; omega
  · have := hA.bw hl _ e; omega
theorem DvP.adda {W' : World} {g : Nat} {a' : List Int} (hA : DvA w a0 c0 vb Bl h BQ BI BS) (hg : (Value.slice a0 M c0).ownBlock = some g) (d : DvP p inv Bl N w base a0 c0 vb h BQ BI BS M W q a) (k : W.grownBy W' (some g)) (oa' : Own W' base (.slice a0 M c0) a') :
    DvP p inv Bl N w base a0 c0 vb h BQ BI BS M W' q a' := by
  have hgw := hA.aw _ _ hg
  have hw := hA.hh
  have e1 := hA.bq
  have e2 := hA.bi
  have e3 := hA.bs
  have ne : ∀ {r : Nat}, g < r → some r ≠ some g := fun h e => by cases e; omega
  refine ⟨grown_cell k d.cf (ne hgw), grown_cell k d.ca (ne (by show g < w.heap.size + 1; omega)), (World.frozen?_of_block (k.block _ (World.block_lt_of_cell? _ _ d.ca) (ne (by show g < w.heap.size + 1; omega)))).trans d.cz, grown_cell k d.cb (ne (by show g < w.heap.size + 1 + 1; omega)), grown_cell k d.cq (ne (by show g < BQ; omega)), grown_cell k d.ci (ne (by show g < BI; omega)), grown_cell k d.cs (ne (by show g < BS; omega)),
    oa', d.oq.kept k (.inr fun e => ?_), d.lb.kept k (fun _ => hA.ab _ _ hg), ?_⟩
  · have h2 : h = g := Option.some.inj e
    omega
  · have h2 := d.g
    rw [hg] at h2 ⊢
    exact grown_trans h2 k
theorem DvP.cut {g : Nat} (hA : DvA w (some ⟨g, 0, none⟩) c0 vb Bl h BQ BI BS) (d : DvP p inv Bl N w base (some ⟨g, 0, none⟩) c0 vb h BQ BI BS M W q a) {t : Nat} (ht : t ≤ M) :
    DvP p inv Bl N w base (some ⟨g, 0, none⟩) c0 vb h BQ BI BS t (W.setCell ⟨w.heap.size + 1, 0, none⟩ (.slice (some ⟨g, 0, none⟩) t c0)) q (a.take t) := by
  have hgw := hA.aw 0 g rfl
  have hw := hA.hh
  have e1 := hA.bq
  have e2 := hA.bi
  have e3 := hA.bs
  have hs : W.grownBy (W.setCell ⟨w.heap.size + 1, 0, none⟩ (.slice (some ⟨g, 0, none⟩) t c0)) (some (w.heap.size + 1)) := grownBy_setCell' _ _ _
  have far : ∀ {x : Addr} {v : Value}, x.block ≠ w.heap.size + 1 → W.cell? x = some v → (W.setCell ⟨w.heap.size + 1, 0, none⟩ (.slice (some ⟨g, 0, none⟩) t c0)).cell? x = some v := fun hx hv => (World.cell?_setCell_far _ _ _ _ (Ne.symm hx)).trans hv
  refine ⟨far (by show w.heap.size ≠ _; omega) d.cf, World.cell?_setCell_same _ _ _ d.ca, (World.frozen?_setCell _ _ _ _).trans d.cz, far (by show w.heap.size + 1 + 1 ≠ _; omega) d.cb, far (by show BQ ≠ _; omega) d.cq, far (by show BI ≠ _; omega) d.ci, far (by show BS ≠ _; omega) d.cs,
    (d.oa.kept hs (.inr fun e => ?_)).take ht, d.oq.kept hs (.inr fun e => ?_), d.lb.kept hs (fun hl e => ?_), grown_past d.g hs (fun r e => by cases e; omega)⟩
  · have h2 : g = w.heap.size + 1 := Option.some.inj e
    omega
  · have h2 : h = w.heap.size + 1 := Option.some.inj e
    omega
  · have := hA.bw hl _ e; omega
end
/-- Between two rounds. -/
def DvS (p inv : Int) (A Bl : List Int) (N : Nat) (w : World) (base : Nat) (a0 : Option Addr) (c0 : Nat) (vb : Value) (h BQ BI BS k : Nat) (W : World) : Prop :=
  ∃ q a, DvP p inv Bl N w base a0 c0 vb h BQ BI BS (A.length - k) W q a ∧ DivM p A Bl N k q a
theorem dvS_own {p inv : Int} {A Bl : List Int} {N : Nat} {w : World} {base : Nat} {a0 : Option Addr} {c0 : Nat} {vb : Value} {h BQ BI BS B : Nat} (hB : w.heap.size ≤ B) :
    OwnFrom B (fun k W => DvS p inv A Bl N w base a0 c0 vb h BQ BI BS k W) := fun k W W' row ⟨q, a, d, m⟩ hg hr => by
  have hr' := fun r e => (hr r e).2
  exact ⟨q, a, ⟨cell_kept d.cf hg hr', cell_kept d.ca hg hr', (frozen_kept d.ca hg hr').trans d.cz, cell_kept d.cb hg hr', cell_kept d.cq hg hr', cell_kept d.ci hg hr', cell_kept d.cs hg hr',
    d.oa.turned hg hr', d.oq.turned hg hr', d.lb.turned hg hr', grown_past d.g hg (fun r e => Nat.le_trans hB (hr r e).1)⟩, m⟩
/-- What lies from block B on is as it was. -/
def HighK (B : Nat) (W w' : World) : Prop := ∀ (a : Addr) (v : Value), B ≤ a.block → W.cell? a = some v → w'.cell? a = some v
theorem HighK.refl (B : Nat) (W : World) : HighK B W W := fun _ _ _ h => h
theorem HighK.drew {B : Nat} {W w' : World} (h : HighK B W w') : HighK B W w'.drew := fun a v hb hv => h a v hb hv
theorem nameIn_world {F : Fence} {m : Nat} {P : Program} {c : Code} {Q : Exit → Act → World → Prop} {a : Act} {w : World} (h : ∀ W, W = w → c.wpIn F m P Q a W) : c.wpIn F m P Q a w := h w rfl
theorem keep_one {X w2 : World} {u0 : Value} {t : TypeId} (h : Nw (X.alloc (.cells #[u0] t)).heap.size (X.alloc (.cells #[u0] t)) w2) :
    w2.cell? ⟨X.heap.size, 0, none⟩ = some u0 ∧ w2.frozen? ⟨X.heap.size, 0, none⟩ = false :=
  ⟨h.hold (by go_simp), h.holdf (by go_simp)⟩
/-- A quotient in new memory, a remainder in the memory of the dividend. -/
def Halves (p : Int) (base : Nat) (va : Value) (A Bl : List Int) (w : World) (e : Ending) (w' : World) : Prop :=
  ∃ v1 v2 r1 r2, e = .returned (.tuple #[v1, v2]) ∧ Own w' w.heap.size v1 r1 ∧ Own w' base v2 r2 ∧ v2.ownBlock = va.ownBlock ∧ w.grownBy w' va.ownBlock ∧
    (∃ u r, Is p r1 u ∧ Is p r2 r ∧ Po.DivOf (pf p A) (pf p Bl) u r) ∧ r1.length ≤ A.length ∧ r2.length ≤ A.length ∧ r2.length < Bl.length

end Go.Proofs.Ytdcdaclkeocfpaa

namespace Go.Proofs.Ytdcdaclkeocfpaa
open Go.RowKit Go.BigFrame

theorem own_apart {w2 w3 : World} {b1 : Nat} {v1 v2 : Value} {l1 l2 : List Int} (h1 : Own w2 b1 v1 l1) (h2 : Own w3 w2.heap.size v2 l2) : v1.ownBlock = none ∨ v2.ownBlock ≠ v1.ownBlock := by
  cases h : v1.ownBlock with
  | none => exact .inl rfl
  | some g =>
    right
    intro e
    have := (h1.row.lt g h).2
    have := (h2.row.lt g e).1
    omega

/-- What a division returns. -/
def DivL (p : Int) (A B : Nat → Fin (Q p)) (w : World) (e : Ending) (w' : World) : Prop :=
  ∃ v1 v2 r1 r2 er, e = .returned (.tuple #[v1, v2, .int .i64 er]) ∧ Lst w' v1 r1 ∧ Lst w' v2 r2 ∧ Below w.heap.size w w' ∧
    ((known p = false ∧ r1 = [] ∧ r2 = [] ∧ er = 7) ∨ (known p = true ∧ B = Po.ze ∧ r1 = [] ∧ r2 = [] ∧ er = 1) ∨ (known p = true ∧ B ≠ Po.ze ∧ er = 0 ∧ r1.length ≤ 101 ∧ r2.length ≤ 100 ∧ ∃ u r, Is p r1 u ∧ Is p r2 r ∧ Po.DivOf A B u r))

end Go.Proofs.Ytdcdaclkeocfpaa

namespace Go.Proofs.Ytdcdaclkeocfpaa
open Go.RowKit Go.BigFrame

end Go.Proofs.Ytdcdaclkeocfpaa

namespace Go.Proofs.Ytdcdaclkeocfpaa
open Go.RowKit Go.BigFrame

/-- Are the points different modulo p? -/
def diffB (p : Int) (l : List Int) : Bool := decide (∀ i, i < l.length → ∀ k, k < i → sb p (l.getD i 0) (l.getD k 0) ≠ 0)
theorem diff_no {p : Int} {l : List Int} {i k : Nat} (hi : i < l.length) (hk : k < i) (h : sb p (l.getD i 0) (l.getD k 0) = 0) : diffB p l = false := by
  unfold diffB
  rw [decide_eq_false_iff_not]
  exact fun hh => hh i hi k hk h
theorem diff_yes {p : Int} {l : List Int} (h : ∀ i, i < l.length → ∀ k, k < i → sb p (l.getD i 0) (l.getD k 0) ≠ 0) : diffB p l = true := by
  unfold diffB
  exact decide_eq_true h

theorem lit2 (w : World) (c d : Int) [hc : U c] [hd : U d] : Lst (w.alloc (.cells #[.int .u64 c, .int .u64 d] 22)) (.slice (some ⟨w.heap.size, 0, none⟩) 2 2) [c, d] :=
  ⟨.inr ⟨_, _, rfl⟩, fun i hi => by
    match i, hi with
    | 0, _ => exact ⟨_, _, _, rfl, by go_simp⟩
    | 1, _ => exact ⟨_, _, _, rfl, by go_simp⟩, fun y hy => by
      simp at hy
      rcases hy with rfl | rfl
      · exact hc
      · exact hd, fun a n k e => by cases e; exact Nat.le_refl _⟩
theorem pf_xm {p : Int} (hk : known p = true) (x : Int) : pf p [sb p 0 x, rd p 1] = Po.xm (ph p x) := funext fun i => by
  match i with
  | 0 => show ph p (sb p 0 x) = 0 - ph p x; rw [ph_sb hk, ph_zero hk]
  | 1 => show ph p (rd p 1) = 1; rw [ph_rd hk, ph_one hk]
  | i + 2 => show ph p _ = 0; rw [getD_ge _ (by simp), ph_zero hk]
theorem van_len {p : Int} {r : List Int} {xs : List (Fin (Q p))} (h : Is p r (Po.van xs)) : r.length ≤ xs.length + 1 := h.bound fun _ => (Po.van_deg xs).1

end Go.Proofs.Ytdcdaclkeocfpaa

namespace Go.Proofs.Ytdcdaclkeocfpaa
open Go.RowKit Go.BigFrame

theorem sb_eq_zero {p : Int} (hk : known p = true) (a b : Int) : sb p a b = 0 ↔ ph p a = ph p b := by
  rw [ph_eq hk, sb, if_pos hk]
  constructor
  · intro h
    have := Int.emod_emod_of_dvd (a - b) (Int.dvd_refl p)
    have h2 : (a - b + b) % p = b % p := by rw [Int.add_emod, h, Int.zero_add, Int.emod_emod]
    rwa [show a - b + b = a by omega] at h2
  · intro h
    rw [Int.sub_emod, h, Int.sub_self, Int.zero_emod]
theorem diff_inj {p : Int} (hk : known p = true) {l : List Int} (h : diffB p l = true) {i j : Nat} (hi : i < l.length) (hj : j < l.length) (e : ph p l[i] = ph p l[j]) : i = j := by
  unfold diffB at h
  rw [decide_eq_true_eq] at h
  rcases Nat.lt_trichotomy i j with l1 | l1 | l1
  · exact absurd ((sb_eq_zero hk _ _).2 (by rw [getD_lt _ hj, getD_lt _ hi]; exact e.symm)) (h j hj i l1)
  · exact l1
  · exact absurd ((sb_eq_zero hk _ _).2 (by rw [getD_lt _ hj, getD_lt _ hi]; exact e)) (h i hi j l1)
theorem diff_nodup {p : Int} (hk : known p = true) {l : List Int} (h : diffB p l = true) : (l.map (ph p)).Nodup := by
  refine List.pairwise_iff_getElem.2 fun i j hi hj hij e => ?_
  simp only [List.length_map] at hi hj
  simp only [List.getElem_map] at e
  have := diff_inj hk h hi hj e
  omega

/-- All points but number k. -/
def others (xs : List Int) (k : Nat) : List Int := xs.take k ++ xs.drop (k + 1)
theorem others_len {xs : List Int} {k : Nat} (h : k < xs.length) : (others xs k).length + 1 = xs.length := by
  simp [others]; omega
theorem others_mem {xs : List Int} {k j : Nat} (hk : k < xs.length) (hj : j < xs.length) (h : j ≠ k) : xs[j] ∈ others xs k := by
  unfold others
  rw [List.mem_append]
  rcases Nat.lt_or_ge j k with l | l
  · exact .inl (List.mem_take_iff_getElem.2 ⟨j, by omega, rfl⟩)
  · refine .inr (List.mem_drop_iff_getElem.2 ⟨j - (k + 1), by omega, ?_⟩)
    congr 1; omega
theorem others_not {p : Int} (hp : known p = true) {xs : List Int} (hd : diffB p xs = true) {k : Nat} (hk : k < xs.length) : ph p xs[k] ∉ (others xs k).map (ph p) := by
  intro h
  obtain ⟨y, hy, e⟩ := List.mem_map.1 h
  unfold others at hy
  rcases List.mem_append.1 hy with hy | hy
  · obtain ⟨j, hj, rfl⟩ := List.mem_take_iff_getElem.1 hy
    have := diff_inj hp hd (i := j) (j := k) (by omega) hk e
    omega
  · obtain ⟨j, hj, rfl⟩ := List.mem_drop_iff_getElem.1 hy
    have := diff_inj hp hd (i := k + 1 + j) (j := k) (by omega) hk e
    omega

/-- The polynomial has at most n coefficients, the values of ys at the first k points, and 0 at the other ones. -/
structure Lag (p : Int) (xs ys : List Int) (k : Nat) (F : Nat → Fin (Q p)) : Prop where
  deg : Po.Deg F xs.length
  hit : ∀ j (hj : j < xs.length), j < k → Po.ev F (ph p xs[j]) xs.length = ph p (ys.getD j 0)
  zero : ∀ j (hj : j < xs.length), k ≤ j → Po.ev F (ph p xs[j]) xs.length = 0
theorem one_ne {p : Int} (hk : known p = true) : (1 : Fin (Q p)) ≠ 0 := by
  rw [← ph_one hk]
  intro h
  rw [ph_eq_zero hk] at h
  have := known_lo hk
  rw [Int.emod_eq_of_lt (by omega) (by omega)] at h
  omega
theorem Lag.step {p : Int} (hp : known p = true) {xs ys : List Int} {k : Nat} (hk : k < xs.length) {F : Nat → Fin (Q p)} (h : Lag p xs ys k F) {c : Fin (Q p)}
    (hc : c * Po.ev (Po.van ((others xs k).map (ph p))) (ph p xs[k]) xs.length = ph p (ys.getD k 0)) : Lag p xs ys (k + 1) (Po.ad F (Po.sc c (Po.van ((others xs k).map (ph p))))) := by
  have hol := others_len hk
  have hvd : Po.Deg (Po.van ((others xs k).map (ph p))) xs.length := by
    have := (Po.van_deg ((others xs k).map (ph p))).1
    rw [List.length_map, hol] at this; exact this
  have hev : ∀ j (hj : j < xs.length), j ≠ k → Po.ev (Po.van ((others xs k).map (ph p))) (ph p xs[j]) xs.length = 0 := fun j hj hne => by
    have := (Po.van_ev (fld hp) ((others xs k).map (ph p)) (ph p xs[j]) (one_ne hp)).2 (List.mem_map.2 ⟨_, others_mem hk hj hne, rfl⟩)
    rw [List.length_map, hol] at this; exact this
  refine ⟨h.deg.ad (hvd.sc c), fun j hj hjk => ?_, fun j hj hjk => ?_⟩
  · rw [Po.ev_ad, Po.ev_sc]
    by_cases e : j = k
    · subst e
      rw [h.zero j hj (Nat.le_refl _), hc]; grind
    · rw [h.hit j hj (by omega), hev j hj e]; grind
  · rw [Po.ev_ad, Po.ev_sc, h.zero j hj (by omega), hev j hj (by omega)]; grind
theorem van_ne {p : Int} (hp : known p = true) {xs : List Int} (hd : diffB p xs = true) {k : Nat} (hk : k < xs.length) : Po.ev (Po.van ((others xs k).map (ph p))) (ph p xs[k]) xs.length ≠ 0 := by
  intro h
  have hol := others_len hk
  have := (Po.van_ev (fld hp) ((others xs k).map (ph p)) (ph p xs[k]) (one_ne hp)).1 (by rw [List.length_map, hol]; exact h)
  exact others_not hp hd hk this

theorem lag_coef {p : Int} (hp : known p = true) {xs : List Int} (hd : diffB p xs = true) {k : Nat} (hk : k < xs.length) {r7 : List Int} (h : Is p r7 (Po.van ((others xs k).map (ph p)))) (y : Int) :
    ph p (ml p y (iv p (ival p (Po.ev (pf p r7) (ph p xs[k]) r7.length)))) * Po.ev (Po.van ((others xs k).map (ph p))) (ph p xs[k]) xs.length = ph p y := by
  have hol := others_len hk
  have hl : r7.length ≤ xs.length := by have := van_len h; rw [List.length_map] at this; omega
  have e : Po.ev (pf p r7) (ph p xs[k]) r7.length = Po.ev (Po.van ((others xs k).map (ph p))) (ph p xs[k]) xs.length := by
    rw [← Po.ev_any (pf_deg hp r7) hl, h.pf hp]
  have hne := van_ne hp hd hk
  rw [← e] at hne ⊢
  obtain ⟨z, hz⟩ : ∃ z, z = Po.ev (pf p r7) (ph p xs[k]) r7.length := ⟨_, rfl⟩
  rw [← hz] at hne ⊢
  have h1 := ph_ival hp z
  have hu : U (ival p z) := inferInstance
  have h2 := ph_iv hp (b := ival p z) hu.lo (fun h0 => hne (by rw [← h1]; exact (ph_eq_zero hp _).2 h0))
  rw [h1] at h2
  rw [ph_ml hp]
  grind

theorem Lst.pre {w : World} {a : Addr} {c : Nat} {l : List Int} (h : Lst w (.slice (some a) l.length c) l) {k : Nat} (hk : k ≤ l.length) : Lst w (.slice (some a) k c) (l.take k) := by
  have hl : (l.take k).length = k := by rw [List.length_take]; omega
  refine ⟨.inr ⟨a, c, by rw [hl]⟩, fun i hi => ?_, fun y hy => h.us y (List.mem_of_mem_take hy), fun a' n c' e => ?_⟩
  · obtain ⟨b, o, c', e, hc⟩ := h.cells i (by omega)
    simp at e
    obtain ⟨rfl, rfl⟩ := e
    exact ⟨b, o, c, by rw [hl], by rw [hc, List.getElem_take]⟩
  · have := h.room _ _ _ rfl
    cases e; omega
theorem Lst.suf {w : World} {b o c : Nat} {l : List Int} (h : Lst w (.slice (some ⟨b, o, none⟩) l.length c) l) {k : Nat} (hk : k ≤ l.length) (a : Option Addr) (n c' : Nat) (hn : n = l.length - k) (hc' : c' = c - k) (ha : ¬ c = k → a = some ⟨b, o + k, none⟩) (ha2 : c = k → a = some ⟨b, o, none⟩) :
    Lst w (.slice a n c') (l.drop k) := by
  have hl : (l.drop k).length = n := by rw [List.length_drop]; exact hn.symm
  have hr := h.room _ _ _ rfl
  refine ⟨.inr ?_, fun i hi => ?_, fun y hy => h.us y (List.mem_of_mem_drop hy), fun a' n' c'' e => by cases e; omega⟩
  · rw [hl]
    by_cases e : c = k
    · exact ⟨_, c', by rw [ha2 e]⟩
    · exact ⟨_, c', by rw [ha e]⟩
  · obtain ⟨b', o', c'', e, hc⟩ := h.cells (k + i) (by omega)
    simp at e
    obtain ⟨⟨rfl, rfl⟩, rfl⟩ := e
    refine ⟨b, o + k, c', by rw [ha (by omega), hl], ?_⟩
    rw [Nat.add_assoc, hc, List.getElem_drop]

end Go.Proofs.Ytdcdaclkeocfpaa

namespace Go.Proofs.Ytdcdaclkeocfpaa
open Go.RowKit

structure NewM (p : Int) (xs ys : List Int) (k : Nat) (r s : List Int) : Prop where
  lr : r.length = k
  ls : s.length = k + 1
  van : pf p s = Po.van ((xs.take k).map (ph p))
  hit : ∀ j (hj : j < xs.length), j < k → Po.ev (pf p r) (ph p xs[j]) k = ph p (ys.getD j 0)
  diff : ∀ i, i < k → ∀ j, j < i → sb p (xs.getD i 0) (xs.getD j 0) ≠ 0
theorem NewM.start {p : Int} (hk : known p = true) (xs ys : List Int) : NewM p xs ys 0 [] [1] :=
  ⟨rfl, rfl, by rw [pf_one hk, ph_one hk]; rfl, fun j _ h => by omega, fun i h => by omega⟩
theorem ival_zero {p : Int} (hk : known p = true) (z : Fin (Q p)) : ival p z = 0 ↔ z = 0 := by
  constructor
  · intro h
    have := ph_ival hk z
    rw [h, ph_zero hk] at this
    exact this.symm
  · rintro rfl
    exact (ival_of (fun hk => ⟨⟨Int.le_refl _, by have := known_lo hk; omega⟩, ph_zero hk⟩) fun _ => rfl).symm
theorem ival_bd {p : Int} (hk : known p = true) (z : Fin (Q p)) : 0 ≤ ival p z ∧ ival p z < p := by
  unfold ival
  rw [if_pos hk]
  have := z.isLt
  have := q_eq hk
  omega
theorem NewM.value {p : Int} (hk : known p = true) {xs ys r s : List Int} {k : Nat} (h : NewM p xs ys k r s) (hkx : k < xs.length) :
    ival p (Po.ev (pf p s) (ph p xs[k]) s.length) = 0 ↔ ∃ j, j < k ∧ sb p (xs.getD k 0) (xs.getD j 0) = 0 := by
  have hzl : ((xs.take k).map (ph p)).length = k := by simp; omega
  rw [ival_zero hk, h.van, h.ls, show k + 1 = ((xs.take k).map (ph p)).length + 1 by omega, Po.van_ev (fld hk) _ _ (one_ne hk), List.mem_map]
  constructor
  · rintro ⟨x, hx, e⟩
    obtain ⟨j, hj, rfl⟩ := List.mem_take_iff_getElem.1 hx
    refine ⟨j, by omega, (sb_eq_zero hk _ _).2 ?_⟩
    rw [getD_lt _ hkx, getD_lt _ (by omega)]; exact e.symm
  · rintro ⟨j, hj, e⟩
    have := (sb_eq_zero hk _ _).1 e
    rw [getD_lt _ hkx, getD_lt _ (by omega)] at this
    exact ⟨xs[j], List.mem_take_iff_getElem.2 ⟨j, by omega, rfl⟩, this.symm⟩
theorem NewM.step {p : Int} (hk : known p = true) {xs ys r s : List Int} {k : Nat} (h : NewM p xs ys k r s) (hkx : k < xs.length) {v : Int} (hv : v = ival p (Po.ev (pf p s) (ph p xs[k]) s.length)) (hv0 : v ≠ 0) :
    NewM p xs ys (k + 1) (updK (addL p (ml p (sb p (ys.getD k 0) (ival p (Po.ev (pf p r) (ph p xs[k]) r.length))) (iv p v)) (r ++ [0]) s 0) (r ++ [0]) 0 s.length) (trL p xs[k] s) := by
  have hzl : ((xs.take k).map (ph p)).length = k := by simp; omega
  have hs0 : pf p (r ++ [0]) = pf p r := funext fun i => by show ph p _ = ph p _; rw [snoc_zero_getD]
  have hr1 := pf_addL hk (ml p (sb p (ys.getD k 0) (ival p (Po.ev (pf p r) (ph p xs[k]) r.length))) (iv p v)) (r ++ [0]) s 0 (by rw [h.ls, List.length_append, h.lr]; simp)
  rw [hs0] at hr1
  have hdr : ∀ y, Po.ev (pf p r) y (k + 1) = Po.ev (pf p r) y k := fun y => Po.ev_any (by have := pf_deg hk r; rwa [h.lr] at this) (by omega) y
  have hvb := ival_bd hk (Po.ev (pf p s) (ph p xs[k]) s.length)
  rw [← hv] at hvb
  have hphv : ph p v = Po.ev (pf p s) (ph p xs[k]) (k + 1) := by rw [hv, ph_ival hk, h.ls]
  have hinv := ph_iv hk (b := v) hvb.1 (by rw [Int.emod_eq_of_lt hvb.1 hvb.2]; exact hv0)
  refine ⟨by rw [updK_len, List.length_append, h.lr]; rfl, by rw [trL_len, h.ls], ?_, fun j hj hjk => ?_, fun i hi j hj => ?_⟩
  · rw [pf_trL hk, h.van, take_snoc hkx, List.map_append]
    exact (Po.van_snoc _ _).symm
  · rw [hr1]
    show Po.ev (Po.ad (pf p r) (Po.sc _ (pf p s))) _ (k + 1) = _
    rw [Po.ev_ad, Po.ev_sc, hdr]
    rcases Nat.lt_or_eq_of_le (Nat.le_of_lt_succ hjk) with h1 | rfl
    · have hz : Po.ev (pf p s) (ph p xs[j]) (k + 1) = 0 := by
        rw [h.van, show k + 1 = ((xs.take k).map (ph p)).length + 1 by omega, Po.van_ev (fld hk) _ _ (one_ne hk), List.mem_map]
        exact ⟨xs[j], List.mem_take_iff_getElem.2 ⟨j, by omega, rfl⟩, rfl⟩
      rw [hz, h.hit j hj h1]; grind
    · rw [← hphv, ph_ml hk, ph_sb hk, ph_ival hk, h.lr]
      have : ∀ a b c d : Fin (Q p), d * c = 1 → a + (b - a) * d * c = b := fun a b c d e => by
        have : (b - a) * d * c = (b - a) * (d * c) := by grind
        rw [this, e]; grind
      exact this _ _ _ _ hinv
  · rcases Nat.lt_or_eq_of_le (Nat.le_of_lt_succ hi) with h1 | rfl
    · exact h.diff i h1 j hj
    · intro e
      exact hv0 (by rw [hv]; exact (h.value hk hkx).2 ⟨j, hj, e⟩)
theorem NewM.done {p : Int} (hk : known p = true) {xs ys r s : List Int} (h : NewM p xs ys xs.length r s) : diffB p xs = true ∧ Lag p xs ys xs.length (pf p r) :=
  ⟨diff_yes h.diff, by have := pf_deg hk r; rwa [h.lr] at this, fun j hj hjk => h.hit j hj hjk, fun j hj hjk => by omega⟩
theorem NewM.same {p : Int} (hk : known p = true) {xs ys r s : List Int} {k : Nat} (h : NewM p xs ys k r s) (hkx : k < xs.length) (hv : ival p (Po.ev (pf p s) (ph p xs[k]) s.length) = 0) : diffB p xs = false := by
  obtain ⟨j, hj, e⟩ := (h.value hk hkx).1 hv
  exact diff_no hkx hj e
end Go.Proofs.Ytdcdaclkeocfpaa

namespace Go.Proofs.Ytdcdaclkeocfpaa
open Go.RowKit Go.BigFrame

theorem van_is {p : Int} (hk : known p = true) {r : List Int} {zs : List (Fin (Q p))} (hl : r.length = zs.length + 1) (hr : ∀ y ∈ r, 0 ≤ y ∧ y < p) (h : pf p r = Po.van zs) : Is p r (Po.van zs) := by
  unfold Is
  rw [if_pos hk]
  refine ⟨⟨hr, fun hne h0 => ?_⟩, h⟩
  have h1 := (Po.van_deg zs).2
  rw [← h, pf_at r (by omega)] at h1
  rw [List.getLast_eq_getElem] at h0
  have e : r[r.length - 1] = r[zs.length] := by congr 1; omega
  rw [e] at h0
  rw [h0, ph_zero hk, ← ph_zero hk, ← ph_one hk, ph_eq hk] at h1
  have := known_lo hk
  rw [Int.emod_eq_of_lt (a := 1) (by omega) (by omega), Int.zero_emod] at h1
  omega

end Go.Proofs.Ytdcdaclkeocfpaa

namespace Go.Proofs.Ytdcdaclkeocfpaa
open Go.RowKit Go.BigFrame

theorem fDiv_u (p a b : Int) [hp : U p] [ha : U a] [hb : U b] (w : World) : Calls Try.prog 90 #[.agg #[.int .u64 p], .int .u64 a, .int .u64 b] w fun en w' => en = .returned (.int .u64 (ml p a (iv p b))) ∧ Nw w.heap.size w w' := fDiv_any p a b hp.lo hp.hi ha.lo ha.hi hb.lo hb.hi w

/-- What an interpolation returns. -/
def IntL (p : Int) (xs ys : List Int) (w : World) (e : Ending) (w' : World) : Prop :=
  ∃ v r er, e = .returned (.tuple #[v, .int .i64 er]) ∧ Lst w' v r ∧ Below w.heap.size w w' ∧
    ((known p = false ∧ r = [] ∧ er = 7) ∨ (known p = true ∧ (xs.length ≠ ys.length ∨ diffB p xs = false) ∧ r = [] ∧ er = 1) ∨ (known p = true ∧ xs.length = ys.length ∧ diffB p xs = true ∧ er = 0 ∧ ∃ F, Is p r F ∧ Lag p xs ys xs.length F))

set_option maxRecDepth 100000 in
set_option maxHeartbeats 8000000 in
theorem oInterpolate_p (p : Int) [hU : U p] (vx vy : Value) (xs ys : List Int) (w : World) (hlx : Lst w vx xs) (hly : Lst w vy ys) (hnx : xs.length ≤ 20) (hny : ys.length ≤ 20) :
    Calls Try.prog 48 #[.agg #[.int .u64 p], vx, vy] w (IntL p xs ys w) := by
  obtain ⟨a0, c0, rfl⟩ := hlx.shape
  obtain ⟨a1, c1, rfl⟩ := hly.shape
  have HL := Lib.hid (And.intro hlx hly)
  clear hlx hly
  have i1 : (xs.length : Int) ≤ 20 := by omega
  have i2 : (ys.length : Int) ≤ 20 := by omega
  by_cases hk : known p = true
  · have HK := Lib.hid hk
    clear hk
    by_cases hlen : xs.length = ys.length
    · have i3 : (ys.length : Int) = (xs.length : Int) := by omega
      have HN := Lib.hid hlen
      replace hlen := hlen.symm
      go_enter Try.func48, Try.ntmps48
      go_upto_region 5 with (go_at_call 75; refine (valid_any _ _).mono ?_; rintro e W ⟨rfl, hb1⟩; rw [HK.out])
      clear hlen i3
      have hf : W.cell? ⟨w.heap.size, 0, none⟩ = some (.int .u64 p) := hb1.hold (by go_simp)
      have hb : Below w.heap.size w W := Below.next (Nat.le_refl _) (Below.made (Nat.le_refl _) (Below.refl _ _) _) hb1.b
      have hsz : w.heap.size < W.heap.size := by have := hb1.b.size; simp at this; omega
      have HB := Lib.hid (And.intro hb hsz)
      clear hb1 hb hsz
      go_wp2
      go_loopw [8, 9, 25] (fun rv sv iv wr => ∃ (k g c : Nat) (r s : List Int), iv = .int .i64 k ∧ k ≤ xs.length ∧ sv = .slice (some ⟨g, 0, none⟩) (k + 1) c ∧ Own wr W.heap.size rv r ∧ Own wr W.heap.size (.slice (some ⟨g, 0, none⟩) (k + 1) c) s ∧ rv.ownBlock ≠ some g ∧ NewM p xs ys k r s ∧ Below W.heap.size W wr) (fun _ _ iv _ => xs.length - (intOf iv).toNat)
      case atStart =>
        refine ⟨0, _, _, [], [1], rfl, Nat.zero_le _, rfl, Own.nil _ _, ?_, by simp [Value.ownBlock], NewM.start HK.out xs ys, Below.made (Nat.le_refl _) (Below.refl _ _) _⟩
        exact own_of (l := [1]) (Nat.le_refl _) (by simpa [vs] using heap_alloc_new W (.cells #[.int .u64 1] 22)) (by simp) (fun y hy => by simp at hy; subst hy; infer_instance)
      case round =>
        obtain ⟨k, g, c, r, s, rfl, hk, rfl, hor, hos, hgr, hm, hb⟩ := hrel
        have hrl := hm.lr
        have hsl := hm.ls
        have hp := Below.hold hb hf
        by_cases hlt : k < xs.length
        · have hlt2 : k < ys.length := by have := HN.out; omega
          obtain ⟨bx, ox, cx, e1, g1⟩ := ((HL.out.1.hold HB.out.1).hold hb).cells k hlt
          obtain ⟨by_, oy, cy, e2, g2⟩ := ((HL.out.2.hold HB.out.1).hold hb).cells k hlt2
          obtain ⟨rfl, rfl⟩ : a0 = some ⟨bx, ox, none⟩ ∧ c0 = cx := by simp at e1; exact e1
          obtain ⟨rfl, rfl⟩ : a1 = some ⟨by_, oy, none⟩ ∧ c1 = cy := by simp at e2; exact e2
          have hu1 := HL.out.1.us xs[k] (List.getElem_mem hlt)
          have hu2 := HL.out.2.us ys[k] (List.getElem_mem hlt2)
          have hsame := fun hv => hm.same HK.out hlt hv
          have hstep := fun v hv hv0 => hm.step HK.out hlt (v := v) hv hv0
          rw [getD_lt _ hlt2] at hstep
          obtain ⟨x, hx⟩ : ∃ x, x = xs[k] := ⟨_, rfl⟩
          obtain ⟨y, hy⟩ : ∃ y, y = ys[k] := ⟨_, rfl⟩
          rw [← hx] at hu1 g1 hsame
          simp only [← hx, ← hy] at hstep
          rw [← hy] at hu2 g2
          obtain ⟨v, hv⟩ : ∃ v, v = ival p (Po.ev (pf p s) (ph p x) s.length) := ⟨_, rfl⟩
          obtain ⟨u, hu⟩ : ∃ u, u = ival p (Po.ev (pf p r) (ph p x) r.length) := ⟨_, rfl⟩
          have hvU : U v := by rw [hv]; infer_instance
          have huU : U u := by rw [hu]; infer_instance
          rw [← hv] at hsame
          simp only [← hu] at hstep
          have i4 : (0 : Int) ≤ (k : Int) := by omega
          have i5 : (k : Int) < (xs.length : Int) := by omega
          have i6 : (k : Int) < (ys.length : Int) := by omega
          have HO := Lib.hid (And.intro hor (And.intro hos (And.intro hgr (And.intro hb (And.intro hrl hsl)))))
          have HV := Lib.hid (And.intro hv hu)
          have HS := Lib.hid (And.intro hsame (hstep v hv))
          clear hor hos hgr hm hb hrl hsl hlt hlt2 e1 e2 hx hy hv hu hsame hstep hf
          go_upto_region 11 with (go_at_call 84; refine (oEval_any p x _ s _ HO.out.2.1.lst (by have := HO.out.2.2.2.2.2; omega)).mono ?_; rintro _ w2 ⟨rfl, hb2⟩; rw [← HV.out.1])
          have hp2 := Below.hold hb2 hp
          have g12 := Below.hold hb2 g1
          have g22 := Below.hold hb2 g2
          have HB2 := Lib.hid hb2
          clear hp g1 g2 hb2
          by_cases hv0 : v = 0
          · have hd := HS.out.1 hv0
            subst hv0
            have HD := Lib.hid hd
            clear hd
            go_wp2
            refine bodyPost_ret (results_tmp2 rfl _ _ _) rfl ?_
            exact ⟨_, [], 1, rfl, Lst.nil _, Below.next (Nat.le_refl _) HB.out.1 (Below.next (Nat.le_refl _) HO.out.2.2.2.1 HB2.out), .inr (.inl ⟨HK.out, .inr HD.out, rfl, rfl⟩)⟩
          · have HN2 := Lib.hid (HS.out.2 hv0)
            have hv1 : (v == 0) = false := by simpa using hv0
            clear HS
            go_upto_region 13 with fail
            have m1 := fun q : BwAt w2 => Below.hold q.bw hp2
            have m2 := fun q : BwAt w2 => Below.hold q.bw g22
            have HE := Lib.hid (fun q : BwAt w2 => ((HO.out.1.hold HB2.out).hold q.bw).lst)
            clear g12 g22
            refine from_now ?_
            intro q
            refine wp_region_bw (by kernel_rfl) (by kernel_rfl) ?_
            repeat (go_big_quiet_step ((first | (go_at_call 84; exact bwAt_of (oEval_any p x _ r _ (HE.out _) (by have := HO.out.2.2.2.2.1; omega))) | (go_at_call 88; exact bwAt_nw (fSub_u _ _ _ _)))))
            refine wpQuiet_nil ?_
            clear q
            rintro _ ⟨q, rfl⟩
            rw [← HV.out.2]
            clear m1 m2
            have hbq : Below W.heap.size W q.out := Below.next (Nat.le_refl _) (Below.next (Nat.le_refl _) HO.out.2.2.2.1 HB2.out) q.bw
            have hoq8 := (HO.out.1.hold HB2.out).hold q.bw
            have hoq9 := (HO.out.2.1.hold HB2.out).hold q.bw
            have hpq := Below.hold q.bw hp2
            have HQ := Lib.hid (And.intro hoq8 (And.intro hoq9 (And.intro hbq hpq)))
            have hne : u8.ownBlock ≠ some w.heap.size := fun e => by have h1 : W.heap.size ≤ w.heap.size := (hoq8.row.lt _ e).1; have := HB.out.2; omega
            obtain ⟨c9, hc9⟩ : ∃ x, x = ml p (sb p y u) (iv p v) := ⟨_, rfl⟩
            have hc9U : U c9 := by rw [hc9]; infer_instance
            have HC := Lib.hid hc9
            have HNE := Lib.hid hne
            clear hp2 hbq hoq8 hoq9 hpq hne hc9
            obtain ⟨Z, hZ⟩ : ∃ Z, Z = q.out := ⟨_, rfl⟩
            rw [← hZ] at HQ ⊢
            clear hZ q HE
            go_wp2_with (at_builtin; refine append_new rfl (.tmp 46) (.tmp 47) rfl W.heap.size _ r rfl HQ.out.1 0 inferInstance rfl (by have := HO.out.2.2.2.2.1; omega) HQ.out.2.2.1.size ?_; intro g8 c8 w4 hown8 hg8 hgr8)
            have hp4 := grown_cell hgr8 HQ.out.2.2.2 (Ne.symm HNE.out)
            have ho9 := HQ.out.2.1.kept hgr8 (.inr fun e => HO.out.2.2.1 e.symm)
            have hbw4 := Below.wrote HQ.out.2.2.1 (Nat.le_refl _) HQ.out.2.2.1.size HQ.out.1 hgr8
            have h89 : g8 ≠ g := by
              rcases hg8 with e | e
              · intro h; rw [h] at e; exact HO.out.2.2.1 e
              · have := (HQ.out.2.1.row.lt g rfl).2; omega
            have H4 := Lib.hid (And.intro hown8 (And.intro ho9 (And.intro hbw4 h89)))
            have k0 := fun q : NwAt w4 => q.nw.hold hp4
            have hrl := HO.out.2.2.2.2.1
            rw [hrl] at hown8 ⊢
            clear hown8 hg8 hgr8 ho9 hbw4 h89 hrl
            go_wp2_with fail
            refine from_here ?_
            intro q
            refine wp_region_nwt 7 (by kernel_rfl) (by kernel_rfl) ?_
            simp only [List.take_succ_cons, List.take_zero, List.drop_succ_cons, List.drop_zero]
            repeat (go_big_quiet_step ((first | (go_at_call 90; exact nwAt_of (fDiv_u _ _ _ _)))))
            refine wpQuiet_nil ?_
            clear q
            rintro _ ⟨q, rfl⟩
            rw [← HC.out]
            have kq := k0 q
            clear k0
            have hrl := HO.out.2.2.2.2.1
            have hsl := HO.out.2.2.2.2.2
            have hg8w : w.heap.size < g8 := by have h1 := (H4.out.1.row.lt g8 rfl).1; have := HB.out.2; omega
            have hrl1 : (r ++ [0]).length = k + 1 := by simp; omega
            have ho8q : Own q.out W.heap.size (.slice (some ⟨g8, 0, none⟩) (r ++ [0]).length c8) (r ++ [0]) := by
              have h := H4.out.1.hold q.nw.b
              rw [hrl] at h; rw [hrl1]; exact h
            have HQ8 := Lib.hid (And.intro ho8q (And.intro hrl (And.intro hsl hrl1)))
            clear ho8q hrl hsl hrl1
            go_wp2_with (first
              | (go_at_call 89; refine (addMultiple_w p c9 W.heap.size g8 _ _ c8 0 (r ++ [0]) s _ q.out HQ8.out.1 (H4.out.2.1.hold q.nw.b).lst (fun _ e => H4.out.2.2.2 (Option.some.inj e).symm) (by have h1 := HQ8.out.2; omega) (by have h1 := HQ8.out.2; omega) (by have h1 := HQ8.out.2; omega)).mono ?_; rintro _ w6 ⟨rfl, hown6, hg6⟩; have kf := grown_cell hg6 kq (fun e => by have h1 : w.heap.size = g8 := Option.some.inj e; omega))
              | (go_at_call 91; refine (timesRoot_w p x W.heap.size _ s _ ((H4.out.2.1.hold q.nw.b).kept hg6 (.inr fun e => H4.out.2.2.2 (Option.some.inj e).symm)) (Nat.le_trans (Nat.le_trans H4.out.2.2.1.size q.nw.b.size) hg6.size) (by have h1 := HQ8.out.2; omega)).mono ?_; rintro _ w7 ⟨g9, c7, rfl, hown7, hg7, hgr7⟩))
            have hbw6 := Below.wrote (Below.next (Nat.le_refl _) H4.out.2.2.1 q.nw.b) (Nat.le_refl _) (Nat.le_trans H4.out.2.2.1.size q.nw.b.size) HQ8.out.1 hg6
            have ho9 := (H4.out.2.1.hold q.nw.b).kept hg6 (.inr fun e => H4.out.2.2.2 (Option.some.inj e).symm)
            have hg8lt := (hown6.row.lt g8 rfl).2
            have ho87 := hown6.kept hgr7 (.inr fun e => H4.out.2.2.2 (Option.some.inj e))
            have hbw7 := Below.wrote hbw6 (Nat.le_refl _) hbw6.size ho9 hgr7
            have hNm := HN2.out
            rw [← HC.out] at hNm
            rw [HQ8.out.2.2.2] at ho87
            rw [HQ8.out.2.2.1] at hown7 ⊢
            refine ⟨⟨k + 1, g9, c7, _, _, by go_num, by omega, rfl, ho87, hown7, fun e => ?_, hNm, hbw7⟩, by simp [intOf]; omega⟩
            have e2 : g8 = g9 := Option.some.inj e
            rcases hg7 with e3 | e3
            · have e4 : g = g9 := Option.some.inj e3
              exact H4.out.2.2.2 (by omega)
            · omega
        · obtain rfl : k = xs.length := by omega
          have HO := Lib.hid (And.intro hor (And.intro hm hb))
          clear hor hos hgr hm hb hsl
          go_wp2_with (go_at_call 92; refine (trim_w p _ _ r _ HO.out.1 (by omega)).mono ?_; rintro _ w2 ⟨v2, rfl, _, hown2, hg2⟩)
          refine bodyPost_ret (results_tmp2 rfl _ _ _) rfl ?_
          obtain ⟨hd, hlag⟩ := HO.out.2.1.done HK.out
          exact ⟨_, _, 0, rfl, hown2.lst, Below.next (Nat.le_refl _) HB.out.1 (Below.wrote HO.out.2.2 (Nat.le_refl _) HO.out.2.2.size HO.out.1 hg2), .inr (.inr ⟨HK.out, HN.out, hd, rfl, _, is_trim p r, hlag⟩)⟩
    · have i3 : ¬ ((xs.length : Int) = (ys.length : Int)) := by omega
      have HN := Lib.hid hlen
      clear hlen
      go_enter Try.func48, Try.ntmps48
      go_wp2_with (go_at_call 75; refine (valid_any _ _).mono ?_; rintro e w1 ⟨rfl, hb1⟩; rw [HK.out])
      refine bodyPost_ret (results_tmp2 rfl _ _ _) rfl ?_
      exact ⟨_, [], 1, rfl, Lst.nil _, Below.next (Nat.le_refl _) (Below.made (Nat.le_refl _) (Below.refl _ _) _) hb1.b, .inr (.inl ⟨HK.out, .inl HN.out, rfl, rfl⟩)⟩
  · have hk : known p = false := by simpa using hk
    have HK := Lib.hid hk
    clear hk
    go_enter Try.func48, Try.ntmps48
    go_wp2_with (go_at_call 75; refine (valid_any _ _).mono ?_; rintro e w1 ⟨rfl, hb1⟩; rw [HK.out])
    refine bodyPost_ret (results_tmp2 rfl _ _ _) rfl ?_
    exact ⟨_, [], 7, rfl, Lst.nil _, Below.next (Nat.le_refl _) (Below.made (Nat.le_refl _) (Below.refl _ _) _) hb1.b, .inl ⟨HK.out, rfl, rfl⟩⟩
end Go.Proofs.Ytdcdaclkeocfpaa
