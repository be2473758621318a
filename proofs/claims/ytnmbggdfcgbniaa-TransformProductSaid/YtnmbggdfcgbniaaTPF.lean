/- The walk of package transform's onRoots: the coefficients folded to n of them. The walks of package transform's Evaluate and Forward. -/
import Derived.Test.YtnmbggdfcgbniaaTPD
namespace Go.Proofs.Ytnmbggdfcgbniaa
open Go.RowKit Go.BigFrame
open Classical
namespace Po
variable {q : Nat} [NeZero q]

/-- The sum of the coefficients at places that are j more than a multiple of n, of the first k. -/
def fold (g : Nat → Fin q) (n k j : Nat) : Fin q := sm (fun i => if i % n = j then g i else 0) k
theorem fold_zero (g : Nat → Fin q) (n j : Nat) : fold g n 0 j = 0 := rfl
theorem fold_hit (g : Nat → Fin q) (n k : Nat) : fold g n (k + 1) (k % n) = fold g n k (k % n) + g k := by
  unfold fold
  rw [sm, if_pos rfl]
theorem fold_miss (g : Nat → Fin q) {n k j : Nat} (h : j ≠ k % n) : fold g n (k + 1) j = fold g n k j := by
  unfold fold
  rw [sm, if_neg (fun e => h e.symm)]; grind
theorem pwF_mod {x : Fin q} {n : Nat} (hx : pwF x n = 1) (i : Nat) : pwF x (i % n) = pwF x i := by
  have h := Nat.div_add_mod i n
  rw [← h, pwF_add, pwF_pow, hx, pwF_one, h]; grind
/-- The folded polynomial has the same value where x^n is 1. -/
theorem ev_folded (g : Nat → Fin q) {x : Fin q} {n : Nat} (hn : 0 < n) (hx : pwF x n = 1) : ∀ k, sm (fun j => fold g n k j * pwF x j) n = sm (fun i => g i * pwF x i) k
  | 0 => by
    have h : ∀ j, j < n → fold g n 0 j * pwF x j = 0 := fun j _ => by rw [fold_zero]; grind
    rw [sm_congr h, sm_zero]; rfl
  | k + 1 => by
    have h : ∀ j, j < n → fold g n (k + 1) j * pwF x j = fold g n k j * pwF x j + (if j = k % n then g k * pwF x j else 0) := fun j _ => by
      by_cases e : j = k % n
      · rw [if_pos e, e, fold_hit]; grind
      · rw [if_neg e, fold_miss g e]; grind
    rw [sm_congr h, sm_add, ev_folded g hn hx k, sm]
    congr 1
    rw [sm_single (k := k % n) (Nat.mod_lt _ hn) (fun i _ hi => if_neg hi), if_pos rfl, pwF_mod hx]
end Po

/-- The coefficients, folded, after k rounds. -/
structure Fold (p s : Int) (a M : List Int) (n k : Nat) : Prop where
  len : M.length = n
  at_ : ∀ j, j < n → ph p (M.getD j 0) = Po.fold (fun i => pf p a i * Po.pwF (ph p s) i) n k j
  red : Red p M
theorem Fold.start {p : Int} (hk : known p = true) (s : Int) (a : List Int) (n : Nat) : Fold p s a (List.replicate n 0) n 0 :=
  ⟨by simp, fun j hj => by rw [getD_lt _ (by simpa using hj), List.getElem_replicate, ph_zero hk]; rfl, fun y hy => by
    rw [(List.mem_replicate.1 hy).2]
    have := known_lo hk
    omega⟩
theorem Fold.next {p s : Int} {a M : List Int} {n k : Nat} (h : Fold p s a M n k) (hk : known p = true) (hka : k < a.length) {v : Int} (hv : ph p v = Po.pwF (ph p s) k) (hj : k % n < M.length) :
    Fold p s a (M.set (k % n) (ad p M[k % n] (ml p a[k] v))) n (k + 1) := by
  refine ⟨by rw [List.length_set, h.len], fun j hjn => ?_, fun y hy => ?_⟩
  · have hl := h.len
    rw [getD_lt _ (by rw [List.length_set]; omega), List.getElem_set]
    by_cases e : k % n = j
    · subst e
      rw [if_pos rfl, Po.fold_hit, ← h.at_ _ hjn, ph_ad hk, ph_ml hk, getD_lt _ hj, hv, pf_el a hka]
    · rw [if_neg e, Po.fold_miss _ (Ne.symm e), ← h.at_ _ hjn, getD_lt _ (by omega)]
  · rcases List.mem_or_eq_of_mem_set hy with hy | rfl
    · exact h.red y hy
    · exact ad_bd hk _ _
/-- What is folded has the values at the points of the domain. -/
theorem Fold.ev {p s : Int} {a M : List Int} {n : Nat} (h : Fold p s a M n a.length) (hn : 0 < n) {x : Fin (Q p)} (hx : Po.pwF x n = 1) : Po.ev (pf p M) x n = Po.ev (pf p a) (ph p s * x) a.length := by
  rw [Po.ev_shift, Po.ev_sm, Po.ev_sm]
  refine Eq.trans (Po.sm_congr fun j hj => ?_) (Po.ev_folded (fun i => pf p a i * Po.pwF (ph p s) i) hn hx a.length)
  rw [← h.at_ j hj]; rfl

set_option maxRecDepth 100000 in
set_option maxHeartbeats 8000000 in
theorem onRoots_w (p s : Int) [hsU : U s] (hk : known p = true) (va : Value) (a : List Int) (n : Nat) (w : World) (hla : Lst w va a) (hna : a.length ≤ 100000) (hn0 : 0 < n) (hn1 : n ≤ 4096) :
    Calls Try.prog 34 #[.agg #[.int .u64 p], va, .int .u64 s, .int .i64 n] w fun e w' => ∃ g M, e = .returned (.slice (some ⟨g, 0, none⟩) n n) ∧ Own w' w.heap.size (.slice (some ⟨g, 0, none⟩) n n) M ∧ Fold p s a M n a.length ∧ Below w.heap.size w w' := by
  obtain ⟨a0, c0, rfl⟩ := hla.shape
  have i1 : (1 : Int) ≤ (n : Int) := by omega
  have i2 : (n : Int) ≤ 4096 := by omega
  have i3 : (a.length : Int) ≤ 100000 := by omega
  have i4 : ¬ (n : Int) = 0 := by omega
  have hnb : ((n : Int) == 0) = false := by simpa using i4
  have HK := Lib.hid hk
  have HL := Lib.hid hla
  clear hk hla
  go_enter Try.func34, Try.ntmps34
  go_upto_region 1 with fail
  refine name_world ?_
  intro W hW
  have hf : W.cell? ⟨w.heap.size, 0, none⟩ = some (.int .u64 p) := by rw [hW]; go_simp
  have hB0 : Below w.heap.size w W := by rw [hW]; exact Below.made (Nat.le_refl _) (Below.refl _ _) _
  have HB := Lib.hid hB0
  clear hW hB0
  go_upto_region 2 with (at_make; refine make_zeros rfl (.tmp 13) (.tmp 13) rfl W.heap.size n rfl rfl (by omega) (Nat.le_refl _) ?_; intro v3 w3 hown3 hv3 hb3; subst hv3; have hf3 := Below.hold hb3 hf)
  have hbw : w.heap.size < W.heap.size := World.block_lt_of_cell? _ _ hf
  obtain ⟨g, hg⟩ : ∃ g, g = W.heap.size := ⟨_, rfl⟩
  rw [← hg] at hown3 hbw ⊢
  have HO := Lib.hid (And.intro hown3 (And.intro hb3 (And.intro hg hf3)))
  clear hown3 hb3 hg hf
  go_wp2
  go_loopw [10, 17] (fun pv iv wr => ∃ (k : Nat) (x : Int) (M : List Int), pv = .int .u64 x ∧ iv = .int .i64 k ∧ k ≤ a.length ∧ U x ∧ ph p x = Po.pwF (ph p s) k ∧ wr.cell? ⟨w.heap.size, 0, none⟩ = some (.int .u64 p) ∧ Own wr g (.slice (some ⟨g, 0, none⟩) n n) M ∧ Fold p s a M n k ∧ Below w.heap.size w wr) (fun _ iv _ => a.length - (intOf iv).toNat)
  case atStart => exact ⟨0, 1, _, rfl, rfl, Nat.zero_le _, inferInstance, by rw [ph_one HK.out]; rfl, HO.out.2.2.2, HO.out.1, Fold.start HK.out s a n, Below.next (Nat.le_refl _) HB.out HO.out.2.1⟩
  case round =>
    obtain ⟨k, x, M, rfl, rfl, hk, hxU, hx, hp, hown, hfold, hb⟩ := hrel
    have i0 : (0 : Int) ≤ (k : Int) := by omega
    clear hf3
    by_cases hlt : k < a.length
    · obtain ⟨bb, ob, cb, e, hc⟩ := (HL.out.hold hb).cells k hlt
      obtain ⟨rfl, rfl⟩ : a0 = some ⟨bb, ob, none⟩ ∧ c0 = cb := by simp at e; exact e
      clear e
      have hua := HL.out.us a[k] (List.getElem_mem hlt)
      have hrn : k % n < n := Nat.mod_lt _ hn0
      have hrM : k % n < M.length := by rw [hfold.len]; exact hrn
      have hc2 := hown.cell hrM
      have huM := hown.us M[k % n] (List.getElem_mem hrM)
      have hz := hown.thawed (k % n)
      have hnext := hfold.next HK.out hlt hx hrM
      have hxn : ph p (ml p x s) = Po.pwF (ph p s) (k + 1) := by rw [ph_ml HK.out, hx]; rfl
      have ht : (k : Int).tmod (n : Int) = ((k % n : Nat) : Int) := by rw [Int.tmod_eq_emod_of_nonneg i0]; exact (Int.natCast_emod _ _).symm
      have ht2 : (k : Int) % (n : Int) = ((k % n : Nat) : Int) := (Int.natCast_emod _ _).symm
      obtain ⟨y, hy⟩ : ∃ y, y = a[k] := ⟨_, rfl⟩
      rw [← hy] at hc hua hnext
      obtain ⟨z, hz0⟩ : ∃ z, z = M[k % n] := ⟨_, rfl⟩
      rw [← hz0] at hc2 huM hnext
      obtain ⟨r, hr⟩ : ∃ r, r = k % n := ⟨_, rfl⟩
      rw [← hr] at hc2 hz hnext ht ht2 hrn
      have i5 : (k : Int) < (a.length : Int) := by omega
      have i6 : (0 : Int) ≤ (r : Int) := by omega
      have i7 : (r : Int) < (n : Int) := by omega
      have i8 : IntKind.i64.wrap (r : Int) = (r : Int) := by rw [IntKind.wrap_i64]; omega
      have HV := Lib.hid (And.intro hown (And.intro hb (And.intro hnext hxn)))
      clear hown hfold hb hnext hxn hx hy hz0 hr hrM hlt
      go_wp2_with fail
      have k0 := fun q : NwAt wr => q.nw.hold hp
      have k1 := fun q : NwAt wr => q.nw.hold hc
      have k2 := fun q : NwAt wr => q.nw.hold hc2
      have k3 := fun q : NwAt wr => q.nw.holdf hz
      refine from_here ?_
      intro q
      refine wp_region_nwt 16 (by kernel_rfl) (by kernel_rfl) ?_
      simp only [List.take_succ_cons, List.take_zero, List.drop_succ_cons, List.drop_zero]
      repeat (go_big_quiet_step ((first | (go_at_call 31; exact nwAt_of (fMul_u _ _ _ _)) | (go_at_call 49; exact nwAt_of (fAdd_u _ _ _ _)))))
      refine wpQuiet_nil ?_
      clear q
      rintro _ ⟨q, rfl⟩
      have j1 := k2 q
      have j3 := k3 q
      have j0 := k0 q
      clear k0 k1 k2 k3
      have hs := (HV.out.1.hold q.nw.b).set r (ad p z (ml p y x))
      have hp2 : (q.out.setCell ⟨g, r, none⟩ (.int .u64 (ad p z (ml p y x)))).cell? ⟨w.heap.size, 0, none⟩ = some (.int .u64 p) := (World.cell?_setCell_far _ _ _ _ (by show g ≠ w.heap.size; omega)).trans j0
      have HS := Lib.hid (And.intro hs.1 (Below.wrote (Below.next (Nat.le_refl _) HV.out.2.1 q.nw.b) (Nat.le_of_lt hbw) (Nat.le_trans HV.out.2.1.size q.nw.b.size) (HV.out.1.hold q.nw.b) hs.2))
      clear hs
      go_wp2_with (go_at_call 31; refine (fMul_u p x s _).mono ?_; rintro _ w5 ⟨rfl, hb5⟩; have hp5 := hb5.hold hp2)
      exact ⟨⟨k + 1, ml p x s, _, rfl, by go_num, by omega, inferInstance, HV.out.2.2.2, hp5, HS.out.1.hold hb5.b, HV.out.2.2.1, Below.next (Nat.le_refl _) HS.out.2 hb5.b⟩, by simp [intOf]; omega⟩
    · obtain rfl : k = a.length := by omega
      have HV := Lib.hid (And.intro hown (And.intro hfold hb))
      clear hown hfold hb
      go_wp2
      go_ret
      exact ⟨_, _, rfl, HV.out.1.low (Nat.le_of_lt hbw), HV.out.2.1, HV.out.2.2⟩
end Go.Proofs.Ytnmbggdfcgbniaa

namespace Go.Proofs.Ytnmbggdfcgbniaa
open Go.RowKit Go.BigFrame
open Classical

theorem len_pow {p n : Int} (h : LenOk p n) : ∃ b : Nat, n = ((2 ^ b : Nat) : Int) ∧ b ≤ 12 := by
  obtain ⟨k, hk⟩ := h.1.2.2.1
  refine ⟨k, hk, ?_⟩
  apply Classical.byContradiction
  intro hc
  have : (2 : Nat) ^ 13 ≤ 2 ^ k := Nat.pow_le_pow_right (by decide) (by omega)
  have h2 := h.2
  omega
theorem root_minus {p n : Int} (h : LenOk p n) {b : Nat} (hn : n = ((2 ^ b : Nat) : Int)) (hb : b ≠ 0) : Po.pwF (ph p (rtw p n)) (2 ^ (b - 1)) = 0 - 1 := by
  have hk := h.1.1
  obtain ⟨k, rfl⟩ : ∃ k, b = k + 1 := ⟨b - 1, by omega⟩
  have h1 : 0 < 2 ^ k := Nat.two_pow_pos k
  have hn2 : n = 2 * ((2 ^ k : Nat) : Int) := by rw [hn, Nat.pow_succ]; omega
  have hh := root_half h.1 (by omega)
  have hc := ph_pw hk (rtw p n) (n / 2)
  have hpw : pw p (rtw p n) (n / 2) = p - 1 := hh
  rw [hpw] at hc
  have e1 : (n / 2).toNat = 2 ^ k := by omega
  have e2 : ph p (p - 1) = 0 - 1 := by
    rw [← ph_sub hk, ph_one hk]
    have : ph p p = 0 := (ph_eq_zero hk p).2 (Int.emod_self)
    rw [this]
  rw [e1, e2] at hc
  exact hc.symm
theorem red_ival {p y : Int} (hk : known p = true) (h : 0 ≤ y ∧ y < p) : y = ival p (ph p y) := by
  rw [← ival_ph hk, Int.emod_eq_of_lt h.1 h.2]
/-- The transform of what is folded: the values at the points of the domain. -/
theorem trf_evL {p s : Int} {n : Nat} {a M R : List Int} (h : LenOk p n) (hf : Fold p s a M n a.length) (ht : Trf p (rtw p n) M R) : R = evL p a s n := by
  have hk := h.1.1
  have hn1 := h.1.2.1
  have hprim := len_prim h
  rw [show ((n : Int)).toNat = n from Int.toNat_natCast _] at hprim
  have hR : R.length = n := by rw [ht.len, hf.len]
  refine List.ext_getElem (by rw [evL_len, hR]) fun k h1 h2 => ?_
  rw [red_ival hk (ht.red hf.red _ (List.getElem_mem h1)), ht.val k h1]
  simp only [evL, List.getElem_map, List.getElem_range]
  rw [hf.len, Po.vl_ev, hf.ev (by omega) (hprim.pow k)]
  rfl

set_option maxRecDepth 100000 in
set_option maxHeartbeats 8000000 in
theorem tEvaluate_w (p s n : Int) [hs : U s] (va : Value) (a : List Int) (w : World) (hla : Lst w va a) (hna : a.length ≤ 100000) (hn0 : -9223372036854775808 ≤ n) (hn1 : n ≤ 9223372036854775807) :
    Calls Try.prog 19 #[.agg #[.int .u64 p], va, .int .u64 s, .int .i64 n] w (Pair w (resE p a s n) (errE p a s n)) := by
  obtain ⟨a0, c0, rfl⟩ := hla.shape
  have HL := Lib.hid hla
  clear hla
  by_cases he : errD p s n = 0
  · have hN : rootN p s n = rtw p n := by rw [rootN, if_pos he]
    by_cases hl : a.length ≤ 8192
    · have h1 : errE p a s n = 0 := by rw [errE, if_pos he, if_pos hl]
      have h2 : resE p a s n = evL p a s n := by rw [resE, if_pos h1]
      have hlen := (errD_zero.1 he).1
      obtain ⟨b, hb, hb12⟩ := len_pow hlen
      obtain ⟨N, hN2⟩ : ∃ N : Nat, N = 2 ^ b := ⟨_, rfl⟩
      rw [← hN2] at hb
      subst hb
      rw [h1, h2]
      have hn4 := hlen.2
      have hnp := hlen.1.2.1
      have hm := fun hb0 => root_minus hlen (b := b) (by rw [hN2]) hb0
      have HK := Lib.hid (And.intro hlen (And.intro he (And.intro hN (And.intro hN2 (And.intro hb12 hm)))))
      have i1 : (a.length : Int) ≤ 8192 := by omega
      clear h1 h2 he hN hlen hN2 hb12 hm
      go_enter Try.func19, Try.ntmps19
      go_upto_region 6 with (go_at_call 29; refine (rootOf_u p s N hn0 hn1 _).mono ?_; rintro e w1 ⟨rfl, hb1⟩; rw [HK.out.2.1, HK.out.2.2.1]; have hf : w1.cell? ⟨w.heap.size, 0, none⟩ = some (.int .u64 p) := hb1.hold (by go_simp))
      have HB := Lib.hid (Below.next (Nat.le_refl _) (Below.made (Nat.le_refl _) (Below.refl _ _) _) hb1.b)
      have HA := Lib.hid (HL.out.hold HB.out)
      have hcell := fun (w' : World) (h : Below w1.heap.size w1 w') => Below.hold h hf
      have F := Below.refl w1.heap.size w1
      clear hb1 hf
      go_region_held3 (fun w' => Below w1.heap.size w1 w')
        (repeat (first | assumption | refine Below.drew ?_ | refine Below.next (Nat.le_refl _) ?_ (by assumption)))
        (first
          | (go_at_call 34; refine (onRoots_w p s HK.out.1.1.1 _ a N _ (HA.out.hold (by assumption)) (by omega) (by omega) (by omega)).mono ?_; rintro _ w2 ⟨g, M, rfl, hown2, hfold, hb2⟩)
          | (go_at_call 33; refine (transform_w p (rtw p N) HK.out.1.1.1 _ M b _ hown2.lst (by rw [hfold.len]; exact HK.out.2.2.2.1) HK.out.2.2.2.2.1 HK.out.2.2.2.2.2).mono ?_; rintro _ w3 ⟨g3, R, rfl, hown3, htrf, hb3⟩))
      all_goals
        go_wp2
        refine bodyPost_ret (results_tmp2 rfl _ _ _) rfl ?_
        have hR := trf_evL HK.out.1 hfold htrf
        rw [hR] at hown3
        exact ⟨_, rfl, hown3.low (Nat.le_trans HB.out.size (by have := hb2.size; simpa using this)), Below.next (Nat.le_refl _) HB.out (by assumption)⟩
    · have h1 : errE p a s n = 3 := by rw [errE, if_pos he, if_neg hl]
      have h2 : resE p a s n = [] := by rw [resE, if_neg (by rw [h1]; decide)]
      rw [h1, h2]
      have HK := Lib.hid (And.intro hN he)
      have i1 : ¬ ((a.length : Int) ≤ 8192) := by omega
      clear h1 h2 he hN
      go_enter Try.func19, Try.ntmps19
      go_wp2_with (go_at_call 29; refine (rootOf_u p s n hn0 hn1 _).mono ?_; rintro e w1 ⟨rfl, hb1⟩; rw [HK.out.1, HK.out.2])
      refine bodyPost_ret (results_tmp2 rfl _ _ _) rfl ?_
      exact ⟨_, rfl, Own.nil _ _, Below.next (Nat.le_refl _) (Below.made (Nat.le_refl _) (Below.refl _ _) _) hb1.b⟩
  · have h1 : errE p a s n = errD p s n := by rw [errE, if_neg he]
    have h2 : resE p a s n = [] := by rw [resE, if_neg (by rw [h1]; exact he)]
    have hN : rootN p s n = 0 := by rw [rootN, if_neg he]
    rw [h1, h2]
    obtain ⟨er, her⟩ : ∃ er, er = errD p s n := ⟨_, rfl⟩
    rw [← her] at he ⊢
    have hne : (er != 0) = true := by simpa using he
    have HK := Lib.hid (And.intro hN her)
    clear h1 h2 her hN
    go_enter Try.func19, Try.ntmps19
    go_wp2_with (go_at_call 29; refine (rootOf_u p s n hn0 hn1 _).mono ?_; rintro e w1 ⟨rfl, hb1⟩; rw [← HK.out.2, HK.out.1])
    refine bodyPost_ret (results_tmp2 rfl _ _ _) rfl ?_
    exact ⟨_, rfl, Own.nil _ _, Below.next (Nat.le_refl _) (Below.made (Nat.le_refl _) (Below.refl _ _) _) hb1.b⟩

set_option maxHeartbeats 2000000 in
theorem tForward_w (p : Int) (va : Value) (a : List Int) (w : World) (hla : Lst w va a) (hna : a.length ≤ 100000) :
    Calls Try.prog 11 #[.agg #[.int .u64 p], va] w (Pair w (resE p a 1 a.length) (errE p a 1 a.length)) := by
  obtain ⟨a0, c0, rfl⟩ := hla.shape
  have HL := Lib.hid hla
  clear hla
  go_enter Try.func11, Try.ntmps11
  go_upto_region 1 with fail
  refine name_world ?_
  intro W hW
  have hf : W.cell? ⟨w.heap.size, 0, none⟩ = some (.int .u64 p) := by rw [hW]; go_simp
  have hB0 : Below w.heap.size w W := by rw [hW]; exact Below.made (Nat.le_refl _) (Below.refl _ _) _
  have HB := Lib.hid hB0
  clear hW hB0
  have i1 : (a.length : Int) ≤ 100000 := by omega
  go_wp2_with (go_at_call 19; refine (tEvaluate_w p 1 a.length _ a _ (HL.out.hold HB.out) hna (by omega) (by omega)).mono ?_; rintro _ w1 ⟨v1, rfl, hown, hb1⟩)
  refine bodyPost_ret (results_tmp2 rfl _ _ _) rfl ?_
  exact ⟨_, rfl, hown.low HB.out.size, Below.next (Nat.le_refl _) HB.out hb1⟩
end Go.Proofs.Ytnmbggdfcgbniaa
