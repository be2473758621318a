/- The walks of package transform's Interpolate and Inverse. -/
import Derived.Test.YtnmbggdfcgbniaaTPF
namespace Go.Proofs.Ytnmbggdfcgbniaa
open Go.RowKit Go.BigFrame
open Classical

theorem iv_root {p n : Int} (h : LenOk p n) : ph p (rtw p n) * ph p (iv p (rtw p n)) = 1 := by
  have hk := h.1.1
  have hpl := known_lo hk
  have h0 : 0 ≤ rtw p n := (instUpw : U (rtw p n)).lo
  have hz : rtw p n % p ≠ 0 := fun e => by
    have hp := len_prim h
    have h1 := hp.1
    rw [(ph_eq_zero hk _).2 e] at h1
    obtain ⟨m, hm⟩ : ∃ m, n.toNat = m + 1 := ⟨n.toNat - 1, by have := h.1.2.1; omega⟩
    rw [hm] at h1
    have h2 : Po.pwF (0 : Fin (Q p)) (m + 1) = 0 := by show Po.pwF 0 m * 0 = (0 : Fin (Q p)); grind
    rw [h2, ← ph_zero hk, ← ph_one hk, ph_eq hk, Int.zero_emod, Int.emod_eq_of_lt (by omega) (by omega)] at h1
    omega
  have := ph_iv hk (b := rtw p n) h0 hz
  rw [← this]; grind
/-- The inverse root's power with half of the order is -1 as well. -/
theorem iv_minus {p n : Int} (h : LenOk p n) {b : Nat} (hn : n = ((2 ^ b : Nat) : Int)) (hb : b ≠ 0) : Po.pwF (ph p (iv p (rtw p n))) (2 ^ (b - 1)) = 0 - 1 := by
  have h1 := root_minus h hn hb
  have h2 : Po.pwF (ph p (rtw p n)) (2 ^ (b - 1)) * Po.pwF (ph p (iv p (rtw p n))) (2 ^ (b - 1)) = 1 := by rw [← Po.pwF_mulx, iv_root h, Po.pwF_one]
  rw [h1] at h2
  have : ∀ x : Fin (Q p), (0 - 1) * x = 1 → x = 0 - 1 := fun x e => by
    have e1 : x = (0 - 1) * ((0 - 1) * x) := by grind
    rw [e1, e]; grind
  exact this _ h2
/-- What stands where the values at the inverse powers are multiplied. -/
theorem trf_intL {p s : Int} {v R : List Int} (h : LenOk p v.length) (ht : Trf p (iv p (rtw p v.length)) v R) : updK (fun i => ml p (R.getD i 0) (ival p (tfac p s v.length i))) R 0 R.length = intL p s v := by
  have hk := h.1.1
  have hprim := len_prim h
  rw [show ((v.length : Int)).toNat = v.length from Int.toNat_natCast _] at hprim
  refine List.ext_getElem (by rw [updK_len, intL_len, ht.len]) fun i h1 h2 => ?_
  rw [updK_len] at h1
  simp only [updK, intL, List.getElem_map, List.getElem_range]
  rw [if_pos (by omega), getD_lt _ h1, ival_mul hk, ph_ival hk, ht.val i h1, ← Po.ev_inv hprim (iv_root h) _ (by rw [← ht.len]; exact h1)]
  rfl
theorem iv_emod {p : Int} (hk : known p = true) (s : Int) : iv p (s % p) = iv p s := by
  unfold iv pw
  rw [if_pos hk, if_pos hk, emod_pow]

set_option maxRecDepth 100000 in
set_option maxHeartbeats 8000000 in
theorem tInterpolate_w (p s : Int) [hU : U p] [hs : U s] (va : Value) (a : List Int) (w : World) (hla : Lst w va a) (hna : a.length ≤ 100000) :
    Calls Try.prog 20 #[.agg #[.int .u64 p], va, .int .u64 s] w (Pair w (resI p s a) (errD p s a.length)) := by
  obtain ⟨a0, c0, rfl⟩ := hla.shape
  have HL := Lib.hid hla
  clear hla
  by_cases he : errD p s a.length = 0
  · have hN : rootN p s a.length = rtw p a.length := by rw [rootN, if_pos he]
    have hlen := (errD_zero.1 he).1
    obtain ⟨b, hb, hb12⟩ := len_pow hlen
    have hk := hlen.1.1
    have hn4 := hlen.2
    have hnp := hlen.1.2.1
    have h4 : resI p s a = intL p s a := by rw [resI, if_pos he]
    have hm := fun hb0 => iv_minus hlen (b := b) hb hb0
    have hz := tfac_zero hk s a.length
    have hzs := fun i => tfac_succ hk s a.length i
    rw [iv_emod hk] at hzs
    rw [he, h4]
    have hnU : U (a.length : Int) := ⟨by omega, by omega⟩
    have hnw : IntKind.u64.wrap (a.length : Int) = (a.length : Int) := by rw [IntKind.wrap_u64]; omega
    have HK := Lib.hid (And.intro hlen (And.intro he (And.intro hN (And.intro (show a.length = 2 ^ b by omega) (And.intro hb12 (And.intro hm (And.intro hz hzs)))))))
    clear hlen he hN hb hb12 hm h4 hk hz hzs
    go_enter Try.func20, Try.ntmps20
    go_upto_region 5 with (go_at_call 29; refine (rootOf_u p s a.length (by omega) (by omega) _).mono ?_; rintro e w1 ⟨rfl, hb1⟩; rw [HK.out.2.1, HK.out.2.2.1]; have hf : w1.cell? ⟨w.heap.size, 0, none⟩ = some (.int .u64 p) := hb1.hold (by go_simp))
    have HB := Lib.hid (Below.next (Nat.le_refl _) (Below.made (Nat.le_refl _) (Below.refl _ _) _) hb1.b)
    have HA := Lib.hid (HL.out.hold HB.out)
    have hcell := fun (w' : World) (h : Below w1.heap.size w1 w') => Below.hold h hf
    have F := Below.refl w1.heap.size w1
    clear hb1
    go_cut [11] (fun v wx => ∃ g R, v = .slice (some ⟨g, 0, none⟩) a.length a.length ∧ Own wx w1.heap.size (.slice (some ⟨g, 0, none⟩) a.length a.length) R ∧ Trf p (iv p (rtw p a.length)) a R ∧ Below w1.heap.size w1 wx)
    case first =>
      clear hf
      go_region_held3 (fun w' => Below w1.heap.size w1 w')
        (repeat (first | assumption | refine Below.drew ?_ | refine Below.next (Nat.le_refl _) ?_ (by assumption)))
        (first
          | (go_at_call 35; refine (fInv_u p (rtw p a.length) _).mono ?_; rintro _ w2 ⟨rfl, hn2⟩; have hb2 := hn2.b)
          | (go_at_call 33; refine (transform_w p (iv p (rtw p a.length)) HK.out.1.1.1 _ a b _ (HA.out.hold (by assumption)) HK.out.2.2.2.1 HK.out.2.2.2.2.1 HK.out.2.2.2.2.2.1).mono ?_; rintro _ w3 ⟨g3, R, rfl, hown3, htrf, hb3⟩))
      all_goals
        go_wp2_with fail
        go_meet
        exact ⟨g3, R, rfl, hown3.low (by have := hb2.size; simpa using this), htrf, by assumption⟩
    case rest =>
      rename World => wx
      obtain ⟨g, R, rfl, hown, htrf, hbx⟩ := hcut
      have hfx := Below.hold hbx hf
      have hgx : w.heap.size < g := Nat.lt_of_lt_of_le (World.block_lt_of_cell? _ _ hf) (hown.row.lt g rfl).1
      have hend := trf_intL (s := s) HK.out.1 htrf
      have hRl := htrf.len
      rw [hRl] at hend
      obtain ⟨N, hN⟩ : ∃ N, N = a.length := ⟨_, rfl⟩
      have HM := Lib.hid (And.intro hend (And.intro hRl (And.intro (Below.next (Nat.le_refl _) HB.out hbx) hN)))
      have HO := Lib.hid hown
      have HX := Lib.hid hfx
      have k0 := fun q : NwAt wx => q.nw.hold hfx
      clear hcell F hf hown htrf hbx hend hRl hN hfx
      go_upto_region 6 with fail
      refine from_here ?_
      intro q
      refine wp_region_nw (by kernel_rfl) (by kernel_rfl) ?_
      repeat (go_big_quiet_step ((first | (go_at_call 35; exact nwAt_of (fInv_u _ _ _)))))
      refine wpQuiet_nil ?_
      clear q
      rintro _ ⟨q, rfl⟩
      have hp0 := k0 q
      have HO1 := Lib.hid (HO.out.hold q.nw.b)
      have HB1 := Lib.hid (Below.next (Nat.le_refl _) HM.out.2.2.1 q.nw.b)
      clear k0
      go_wp2
      go_loopw [12, 43] (fun fv iv wr => ∃ k : Nat, fv = .int .u64 (ival p (tfac p s a.length k)) ∧ iv = .int .i64 k ∧ k ≤ a.length ∧ wr.cell? ⟨w.heap.size, 0, none⟩ = some (.int .u64 p) ∧ Own wr w1.heap.size (.slice (some ⟨g, 0, none⟩) a.length a.length) (updK (fun i => ml p (R.getD i 0) (ival p (tfac p s a.length i))) R 0 k) ∧ Below w.heap.size w wr) (fun _ iv _ => a.length - (intOf iv).toNat)
      case atStart => exact ⟨0, by rw [HK.out.2.2.2.2.2.2.1], rfl, Nat.zero_le _, hp0, by rw [updK_zero]; exact HO1.out, HB1.out⟩
      case round =>
        obtain ⟨k, rfl, rfl, hk, hp, hown, hb⟩ := hrel
        have i0 : (0 : Int) ≤ (k : Int) := by omega
        clear hp0
        by_cases hlt : k < a.length
        · have hkR : k < R.length := by have := HM.out.2.1; omega
          have hc := hown.cell (i := k) (by rw [updK_len]; exact hkR)
          rw [updK_at0 hkR] at hc
          have hz := hown.thawed k
          have huR := HO.out.us _ (List.getElem_mem hkR)
          have hset := updK_set0 (f := fun i => ml p (R.getD i 0) (ival p (tfac p s a.length i))) (L := R) (k := k)
          rw [getD_lt _ hkR] at hset
          have hts := HK.out.2.2.2.2.2.2.2 k
          obtain ⟨x, hx⟩ : ∃ x, x = R[k] := ⟨_, rfl⟩
          rw [← hx] at hc huR hset
          obtain ⟨y, hy⟩ : ∃ y, y = ival p (tfac p s a.length k) := ⟨_, rfl⟩
          have hyU : U y := by rw [hy]; infer_instance
          rw [← hy] at hset hts ⊢
          have i1 : (k : Int) < (a.length : Int) := by omega
          have HV := Lib.hid (And.intro hown (And.intro hb (And.intro hset hts)))
          clear hown hb hset hts hx hy hkR
          go_upto_region 11 with (go_at_call 31; refine (fMul_u p _ _ _).mono ?_; rintro _ w4 ⟨rfl, hb4⟩; have hc4 := hb4.hold hc; have hz4 := (hb4.f _).trans hz; have hp4 := hb4.hold hp; have HB4 := Lib.hid hb4.b; clear hb4)
          have hs := (HV.out.1.hold HB4.out).set k (ml p x y)
          have hbs := Below.wrote (Below.next (Nat.le_refl _) HV.out.2.1 HB4.out) (by have := HB.out.size; exact this) (Nat.le_trans HV.out.2.1.size HB4.out.size) (HV.out.1.hold HB4.out) hs.2
          rw [HV.out.2.2.1] at hs
          have HS := Lib.hid (And.intro hs.1 hbs)
          have hp5 : (w4.setCell ⟨g, k, none⟩ (.int .u64 (ml p x y))).cell? ⟨w.heap.size, 0, none⟩ = some (.int .u64 p) := (World.cell?_setCell_far _ _ _ _ (by show g ≠ w.heap.size; omega)).trans hp4
          clear hs hbs hc4 hz4 hc hz hp hp4
          go_wp2_with (go_at_call 31; refine (fMul_u p _ _ _).mono ?_; rintro _ w5 ⟨rfl, hb5⟩; have hp6 := hb5.hold hp5)
          exact ⟨⟨k + 1, by rw [HV.out.2.2.2], by go_num, by omega, hp6, HS.out.1.hold hb5.b, Below.next (Nat.le_refl _) HS.out.2 hb5.b⟩, by simp [intOf]; omega⟩
        · obtain rfl : k = a.length := by omega
          rw [HM.out.1] at hown
          have HV := Lib.hid (And.intro hown hb)
          clear hown hb
          go_wp2
          refine bodyPost_ret (results_tmp2 rfl _ _ _) rfl ?_
          exact ⟨_, rfl, HV.out.1.low HB.out.size, HV.out.2⟩
  · have h2 : resI p s a = [] := by rw [resI, if_neg he]
    have hN : rootN p s a.length = 0 := by rw [rootN, if_neg he]
    rw [h2]
    obtain ⟨er, her⟩ : ∃ er, er = errD p s a.length := ⟨_, rfl⟩
    rw [← her] at he ⊢
    have hne : (er != 0) = true := by simpa using he
    have HK := Lib.hid (And.intro hN her)
    have i1 : (a.length : Int) ≤ 100000 := by omega
    clear h2 her hN
    go_enter Try.func20, Try.ntmps20
    go_wp2_with (go_at_call 29; refine (rootOf_u p s a.length (by omega) (by omega) _).mono ?_; rintro e w1 ⟨rfl, hb1⟩; rw [← HK.out.2, HK.out.1])
    refine bodyPost_ret (results_tmp2 rfl _ _ _) rfl ?_
    exact ⟨_, rfl, Own.nil _ _, Below.next (Nat.le_refl _) (Below.made (Nat.le_refl _) (Below.refl _ _) _) hb1.b⟩

set_option maxHeartbeats 2000000 in
theorem tInverse_w (p : Int) [hU : U p] (va : Value) (a : List Int) (w : World) (hla : Lst w va a) (hna : a.length ≤ 100000) :
    Calls Try.prog 13 #[.agg #[.int .u64 p], va] w (Pair w (resI p 1 a) (errD p 1 a.length)) := by
  obtain ⟨a0, c0, rfl⟩ := hla.shape
  have HL := Lib.hid hla
  clear hla
  go_enter Try.func13, Try.ntmps13
  go_upto_region 1 with fail
  refine name_world ?_
  intro W hW
  have hf : W.cell? ⟨w.heap.size, 0, none⟩ = some (.int .u64 p) := by rw [hW]; go_simp
  have hB0 : Below w.heap.size w W := by rw [hW]; exact Below.made (Nat.le_refl _) (Below.refl _ _) _
  have HB := Lib.hid hB0
  clear hW hB0
  go_wp2_with (go_at_call 20; refine (tInterpolate_w p 1 _ a _ (HL.out.hold HB.out) hna).mono ?_; rintro _ w1 ⟨v1, rfl, hown, hb1⟩)
  refine bodyPost_ret (results_tmp2 rfl _ _ _) rfl ?_
  exact ⟨_, rfl, hown.low HB.out.size, Below.next (Nat.le_refl _) HB.out hb1⟩
end Go.Proofs.Ytnmbggdfcgbniaa
