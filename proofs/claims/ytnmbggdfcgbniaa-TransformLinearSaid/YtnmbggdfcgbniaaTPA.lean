/- The walks of package transform's rootOf, powerOfTwo, Domain. -/
import Derived.Test.YtnmbggdfcgbniaaRvA
import Derived.Test.YtnmbggdfcgbniaaRvB
import Derived.Test.YtnmbggdfcgbniaaTJ
namespace Go.Proofs.Ytnmbggdfcgbniaa
open Go.RowKit Go.BigFrame
open Classical

noncomputable def rootN (p s n : Int) : Int := if errD p s n = 0 then rtw p n else 0

set_option maxHeartbeats 2000000 in
theorem rootOf_u (p s n : Int) [hs : U s] (hn0 : -9223372036854775808 ≤ n) (hn1 : n ≤ 9223372036854775807) (w : World) :
    Calls Try.prog 29 #[.agg #[.int .u64 p], .int .u64 s, .int .i64 n] w fun e w' => e = .returned (.tuple #[.int .u64 (rootN p s n), .int .i64 (errD p s n)]) ∧ Nw w.heap.size w w' := by
  by_cases hk : known p = true
  · by_cases hr : RootOk p n
    · by_cases hn : n ≤ 4096
      · have hrd : rd p s = s % p := by rw [rd, if_pos hk]
        have HK := Lib.hid (And.intro hk (And.intro hr hrd))
        by_cases hz : s % p = 0
        · have he : errD p s n = 1 := by rw [errD, if_pos hk, if_neg (fun h => h.2 hz)]
          have hN : rootN p s n = 0 := by rw [rootN, if_neg (by rw [he]; decide)]
          rw [he, hN]
          have HZ := Lib.hid hz
          clear he hN hz hrd hk hr
          go_enter Try.func29, Try.ntmps29
          go_wp2_with (first
            | (go_at_call 37; refine (valid_any _ _).mono ?_; rintro e w1 ⟨rfl, hb1⟩; rw [HK.out.1]; have hc1 : w1.cell? ⟨w.heap.size, 0, none⟩ = some (.int .u64 p) := hb1.hold (by go_simp))
            | (go_at_call 42; refine (fRoot_yes _ _ HK.out.2.1 hn1 _).mono ?_; rintro e w2 ⟨rfl, hb2⟩; have hc2 := hb2.hold hc1)
            | (go_at_call 30; refine (fReduce_u _ _ _).mono ?_; rintro e w3 ⟨rfl, hb3⟩; rw [HK.out.2.2, HZ.out]))
          refine bodyPost_ret (results_tmp2 rfl _ _ _) rfl ?_
          exact ⟨rfl, by (repeat (first | exact Nw.refl _ _ | assumption | refine Nw.drew ?_ | refine Nw.drewN ?_ _ | refine Nw.set ?_ (by first | omega | (simp; done) | (simp; omega)) _ | refine Nw.made (Nat.le_refl _) ?_ _ _ | refine Nw.next (Nat.le_refl _) ?_ (by assumption)))⟩
        · have he : errD p s n = 0 := errD_ok ⟨hr, hn⟩ hz
          have hN : rootN p s n = rtw p n := by rw [rootN, if_pos he]
          rw [he, hN]
          have hzb : (s % p == 0) = false := by simpa using hz
          clear he hN hrd hk hr
          go_enter Try.func29, Try.ntmps29
          go_wp2_with (first
            | (go_at_call 37; refine (valid_any _ _).mono ?_; rintro e w1 ⟨rfl, hb1⟩; rw [HK.out.1]; have hc1 : w1.cell? ⟨w.heap.size, 0, none⟩ = some (.int .u64 p) := hb1.hold (by go_simp))
            | (go_at_call 42; refine (fRoot_yes _ _ HK.out.2.1 hn1 _).mono ?_; rintro e w2 ⟨rfl, hb2⟩; have hc2 := hb2.hold hc1)
            | (go_at_call 30; refine (fReduce_u _ _ _).mono ?_; rintro e w3 ⟨rfl, hb3⟩; rw [HK.out.2.2]))
          refine bodyPost_ret (results_tmp2 rfl _ _ _) rfl ?_
          exact ⟨rfl, by (repeat (first | exact Nw.refl _ _ | assumption | refine Nw.drew ?_ | refine Nw.drewN ?_ _ | refine Nw.set ?_ (by first | omega | (simp; done) | (simp; omega)) _ | refine Nw.made (Nat.le_refl _) ?_ _ _ | refine Nw.next (Nat.le_refl _) ?_ (by assumption)))⟩
      · have he : errD p s n = 1 := by rw [errD, if_pos hk, if_neg (fun h => hn h.1.2)]
        have hN : rootN p s n = 0 := by rw [rootN, if_neg (by rw [he]; decide)]
        rw [he, hN]
        have HK := Lib.hid (And.intro hk hr)
        clear he hN hk hr
        go_enter Try.func29, Try.ntmps29
        go_wp2_with (first
          | (go_at_call 37; refine (valid_any _ _).mono ?_; rintro e w1 ⟨rfl, hb1⟩; rw [HK.out.1]; have hc1 : w1.cell? ⟨w.heap.size, 0, none⟩ = some (.int .u64 p) := hb1.hold (by go_simp))
          | (go_at_call 42; refine (fRoot_yes _ _ HK.out.2 hn1 _).mono ?_; rintro e w2 ⟨rfl, hb2⟩; have hc2 := hb2.hold hc1))
        refine bodyPost_ret (results_tmp2 rfl _ _ _) rfl ?_
        exact ⟨rfl, by (repeat (first | exact Nw.refl _ _ | assumption | refine Nw.drew ?_ | refine Nw.drewN ?_ _ | refine Nw.set ?_ (by first | omega | (simp; done) | (simp; omega)) _ | refine Nw.made (Nat.le_refl _) ?_ _ _ | refine Nw.next (Nat.le_refl _) ?_ (by assumption)))⟩
    · have he : errD p s n = 1 := by rw [errD, if_pos hk, if_neg (fun h => hr h.1.1)]
      have hN : rootN p s n = 0 := by rw [rootN, if_neg (by rw [he]; decide)]
      rw [he, hN]
      have HK := Lib.hid (And.intro hk hr)
      clear he hN hk hr
      go_enter Try.func29, Try.ntmps29
      go_wp2_with (first
        | (go_at_call 37; refine (valid_any _ _).mono ?_; rintro e w1 ⟨rfl, hb1⟩; rw [HK.out.1]; have hc1 : w1.cell? ⟨w.heap.size, 0, none⟩ = some (.int .u64 p) := hb1.hold (by go_simp))
        | (go_at_call 42; refine (fRoot_no _ _ HK.out.2 hn0 hn1 _).mono ?_; rintro e w2 ⟨rfl, hb2⟩; have hc2 := hb2.hold hc1))
      refine bodyPost_ret (results_tmp2 rfl _ _ _) rfl ?_
      exact ⟨rfl, by (repeat (first | exact Nw.refl _ _ | assumption | refine Nw.drew ?_ | refine Nw.drewN ?_ _ | refine Nw.set ?_ (by first | omega | (simp; done) | (simp; omega)) _ | refine Nw.made (Nat.le_refl _) ?_ _ _ | refine Nw.next (Nat.le_refl _) ?_ (by assumption)))⟩
  · have he : errD p s n = 7 := by rw [errD, if_neg hk]
    have hN : rootN p s n = 0 := by rw [rootN, if_neg (by rw [he]; decide)]
    rw [he, hN]
    have HK := Lib.hid (show known p = false by simpa using hk)
    clear he hN hk
    go_enter Try.func29, Try.ntmps29
    go_wp2_with (go_at_call 37; refine (valid_any _ _).mono ?_; rintro e w1 ⟨rfl, hb1⟩; rw [HK.out]; have hc1 : w1.cell? ⟨w.heap.size, 0, none⟩ = some (.int .u64 p) := hb1.hold (by go_simp))
    refine bodyPost_ret (results_tmp2 rfl _ _ _) rfl ?_
    exact ⟨rfl, by (repeat (first | exact Nw.refl _ _ | assumption | refine Nw.drew ?_ | refine Nw.drewN ?_ _ | refine Nw.set ?_ (by first | omega | (simp; done) | (simp; omega)) _ | refine Nw.made (Nat.le_refl _) ?_ _ _ | refine Nw.next (Nat.le_refl _) ?_ (by assumption)))⟩

theorem bitLen_log : ∀ x : Nat, x < 2 ^ 64 → Lib.bitLen x = if x = 0 then 0 else x.log2 + 1 := fun x => by
  induction x using Nat.strongRecOn with
  | _ x ih =>
    intro hx
    by_cases h : x = 0
    · subst h; rfl
    · rw [if_neg h, Lib.bitLen_half x h hx, ih (x / 2) (by omega) (by omega)]
      by_cases h2 : x / 2 = 0
      · obtain rfl : x = 1 := by omega
        rfl
      · rw [if_neg h2, Nat.log2_def x, if_pos (by omega)]
        omega
theorem bitLen_16 {x : Nat} (h : x ≤ 65535) : Lib.bitLen x ≤ 16 := Lib.bitLen_le x 16 (by omega) (by omega)
theorem fits_len {n : Nat} (h0 : 1 ≤ n) (h1 : n ≤ 65536) : 2 ^ Lib.bitLen (n - 1) = fitsN n := by
  rw [bitLen_log _ (by omega)]
  unfold fitsN
  by_cases h : n ≤ 1
  · obtain rfl : n = 1 := by omega
    rfl
  · rw [if_neg h, if_neg (by omega)]

set_option maxHeartbeats 2000000 in
theorem power_u (n : Nat) (h0 : 1 ≤ n) (h1 : n ≤ 65536) (w : World) :
    Calls Try.prog 38 #[.int .i64 n] w fun e w' => e = .returned (.int .i64 (fitsN n : Nat)) ∧ Nw w.heap.size w w' := by
  have hb := bitLen_16 (x := n - 1) (by omega)
  have hp : (2 : Nat) ^ Lib.bitLen (n - 1) ≤ 2 ^ 16 := Nat.pow_le_pow_right (by decide) hb
  have hf : wrap64 (2 ^ min (Lib.bitLen (n - 1)) 64) = (fitsN n : Nat) := by
    rw [← fits_len h0 h1, Nat.min_eq_left (by omega)]
    have e : (2 : Int) ^ Lib.bitLen (n - 1) = ((2 ^ Lib.bitLen (n - 1) : Nat) : Int) := by simp
    rw [e]
    obtain ⟨m, hm⟩ : ∃ m, m = 2 ^ Lib.bitLen (n - 1) := ⟨_, rfl⟩
    rw [← hm] at hp ⊢
    unfold wrap64
    omega
  have HF := Lib.hid hf
  clear hf hp hb
  go_enter Try.func38, Try.ntmps38
  go_wp2_with (go_at_call 51; refine (len64_small ((n : Int) - 1) _ (by omega) (by omega)).mono ?_; rintro e w1 ⟨rfl, rfl⟩)
  go_ret
  rw [HF.out]
  exact ⟨rfl, Nw.refl _ _⟩

set_option maxHeartbeats 4000000 in
theorem tDomain_w (p s n : Int) [hs : U s] (hn0 : -9223372036854775808 ≤ n) (hn1 : n ≤ 9223372036854775807) (w : World) :
    Calls Try.prog 16 #[.agg #[.int .u64 p], .int .u64 s, .int .i64 n] w (Pair w (resD p s n) (errD p s n)) := by
  by_cases he : errD p s n = 0
  · have hr : resD p s n = domL p s n := by rw [resD, if_pos he]
    have hN : rootN p s n = rtw p n := by rw [rootN, if_pos he]
    obtain ⟨hl, hz⟩ := errD_zero.1 he
    have hk := hl.1.1
    have hn := hl.1.2.1
    have hn2 := hl.2
    obtain ⟨N, hNn⟩ : ∃ N : Nat, n = (N : Int) := ⟨n.toNat, by omega⟩
    subst hNn
    have hL : (domL p s N).length = N := by rw [domL_len]; simp
    have h0 : rd p s = ival p (dpt p s N 0) := by rw [dpt_zero, rd, if_pos hk, ival_ph hk]
    have hend : updK (fun i => ival p (dpt p s N i)) (List.replicate N 0) 0 N = domL p s N := by
      refine List.ext_getElem (by rw [updK_len, hL]; simp) fun i h1 h2 => ?_
      rw [updK_len] at h1
      simp at h1
      simp only [updK, domL, List.getElem_map, List.getElem_range]
      rw [if_pos (by omega)]
    rw [he, hr]
    have HK := Lib.hid (And.intro hk (And.intro he (And.intro hN (And.intro h0 hend))))
    clear he hr hN hk hl h0 hend hz hL
    go_enter Try.func16, Try.ntmps16
    go_upto_region 4 with (go_at_call 29; refine (rootOf_u p s N hn0 hn1 _).mono ?_; rintro e w1 ⟨rfl, hb1⟩; rw [HK.out.2.1, HK.out.2.2.1]; have hc1 : w1.cell? ⟨w.heap.size, 0, none⟩ = some (.int .u64 p) := hb1.hold (by go_simp))
    have hB1 : Below w.heap.size w w1 := Below.next (Nat.le_refl _) (Below.made (Nat.le_refl _) (Below.refl _ _) _) hb1.b
    have HB := Lib.hid hB1
    clear hb1 hB1
    go_upto_region 5 with (at_make; refine make_zeros rfl (.tmp 23) (.tmp 23) rfl w1.heap.size N rfl rfl (by omega) (Nat.le_refl _) ?_; intro v3 w3 hown3 hv3 hb3; subst hv3; have hc3 := Below.hold hb3 hc1)
    obtain ⟨g, hg⟩ : ∃ g, g = w1.heap.size := ⟨_, rfl⟩
    have hgw : w.heap.size < g := by rw [hg]; exact World.block_lt_of_cell? _ _ hc1
    rw [← hg] at hown3 ⊢
    have HO := Lib.hid (And.intro hown3 (And.intro hb3 hg))
    clear hown3 hb3 hg hc1
    go_wp2_with (go_at_call 30; refine (fReduce_u p s _).mono ?_; rintro e w4 ⟨rfl, hb4⟩; rw [HK.out.2.2.2.1]; have hc4 := hb4.hold hc3)
    have HO4 := Lib.hid (And.intro (HO.out.1.hold hb4.b) (Below.next (Nat.le_refl _) HB.out (Below.next (Nat.le_refl _) HO.out.2.1 hb4.b)))
    clear hb4 hc3
    go_loopw [11, 30] (fun pv iv wr => ∃ k : Nat, pv = .int .u64 (ival p (dpt p s N k)) ∧ iv = .int .i64 k ∧ k ≤ N ∧ wr.cell? ⟨w.heap.size, 0, none⟩ = some (.int .u64 p) ∧ Own wr g (.slice (some ⟨g, 0, none⟩) N N) (updK (fun i => ival p (dpt p s N i)) (List.replicate N 0) 0 k) ∧ Below w.heap.size w wr) (fun _ iv _ => N - (intOf iv).toNat)
    case atStart => exact ⟨0, rfl, rfl, Nat.zero_le _, hc4, by rw [updK_zero]; exact HO4.out.1, HO4.out.2⟩
    case round =>
      obtain ⟨k, rfl, rfl, hk, hp, hown, hb⟩ := hrel
      have i0 : (0 : Int) ≤ (k : Int) := by omega
      clear hc4
      by_cases hlt : k < N
      · have hkl : k < (List.replicate N (0 : Int)).length := by simp; exact hlt
        have hc : wr.cell? ⟨g, k, none⟩ = some (.int .u64 0) := by rw [hown.cell (i := k) (by rw [updK_len]; exact hkl), updK_at0 hkl]; simp
        have hf := hown.thawed k
        have hset := updK_set0 (f := fun i => ival p (dpt p s N i)) (L := List.replicate N 0) (k := k)
        have hnext := dpt_succ HK.out.1 s N k
        obtain ⟨y, hy⟩ : ∃ y, y = ival p (dpt p s N k) := ⟨_, rfl⟩
        have hyU : U y := by rw [hy]; infer_instance
        rw [← hy] at hset hnext ⊢
        have hps : (wr.setCell ⟨g, k, none⟩ (.int .u64 y)).cell? ⟨w.heap.size, 0, none⟩ = some (.int .u64 p) := (World.cell?_setCell_other _ _ _ _ (by intro e; have := congrArg Addr.block e; simp at this; omega)).trans hp
        have hs := hown.set k y
        have hbs := Below.wrote hb (Nat.le_of_lt hgw) hb.size hown hs.2
        have i1 : (k : Int) < (N : Int) := by omega
        have HV := Lib.hid (And.intro hs.1 (And.intro hbs (And.intro hset hnext)))
        clear hs hbs hset hnext hown hb hy hkl
        go_wp2_with (go_at_call 31; refine (fMul_u p y (rtw p N) _).mono ?_; rintro e w5 ⟨rfl, hb5⟩; have hp5 := hb5.hold hps)
        exact ⟨⟨k + 1, by rw [HV.out.2.2.2], by go_num, by omega, hp5, by rw [← HV.out.2.2.1]; exact HV.out.1.hold hb5.b, Below.next (Nat.le_refl _) HV.out.2.1 hb5.b⟩, by simp [intOf]; omega⟩
      · obtain rfl : k = N := by omega
        rw [HK.out.2.2.2.2] at hown
        have HV := Lib.hid (And.intro hown hb)
        clear hown hb
        go_wp2
        refine bodyPost_ret (results_tmp2 rfl _ _ _) rfl ?_
        exact ⟨_, rfl, HV.out.1.low (Nat.le_of_lt hgw), HV.out.2⟩
  · have hN : rootN p s n = 0 := by rw [rootN, if_neg he]
    have hr : resD p s n = [] := by rw [resD, if_neg he]
    obtain ⟨er, her⟩ : ∃ er, er = errD p s n := ⟨_, rfl⟩
    rw [← her] at he
    have hne : (er != 0) = true := by simpa using he
    rw [hr, ← her]
    have HK := Lib.hid (And.intro hN her)
    clear hN her hr
    go_enter Try.func16, Try.ntmps16
    go_wp2_with (go_at_call 29; refine (rootOf_u p s n hn0 hn1 _).mono ?_; rintro e w1 ⟨rfl, hb1⟩; rw [← HK.out.2, HK.out.1])
    refine bodyPost_ret (results_tmp2 rfl _ _ _) rfl ?_
    exact ⟨_, rfl, Own.nil _ _, Below.next (Nat.le_refl _) (Below.made (Nat.le_refl _) (Below.refl _ _) _) hb1.b⟩
end Go.Proofs.Ytnmbggdfcgbniaa
