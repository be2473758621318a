/- The walks of the reference's Eval, Evaluate, Same, Reduced. -/
import Derived.Test.YtnmbggdfcgbniaaTA
namespace Go.Proofs.Ytnmbggdfcgbniaa
open Go.RowKit Go.BigFrame
open Classical

set_option maxHeartbeats 4000000 in
theorem uEval_u (p x : Int) [hx : U x] (v : Value) (l : List Int) (w : World) (hl : Lst w v l) (hn : l.length ≤ 100000) :
    Calls Try.prog 21 #[.int .u64 p, v, .int .u64 x] w fun e w' => e = .returned (.int .u64 (ival p (Po.ev (pf p l) (ph p x) l.length))) ∧ Below w.heap.size w w' := by
  obtain ⟨a0, c0, rfl⟩ := hl.shape
  have HL := Lib.hid hl
  clear hl
  go_enter Try.func21, Try.ntmps21
  go_wp2
  go_loopw [7, 8] (fun ov iv wr => ∃ k : Nat, k ≤ l.length ∧ iv = .int .i64 (((l.length - k : Nat) : Int) - 1) ∧ ov = .int .u64 (evh p l x k) ∧ Below w.heap.size w wr) (fun _ iv _ => (intOf iv + 1).toNat)
  case atStart => exact ⟨0, Nat.zero_le _, rfl, rfl, Below.refl _ _⟩
  case round =>
    obtain ⟨k, hk, rfl, rfl, hb⟩ := hrel
    obtain ⟨j, hj⟩ : ∃ j, j = l.length - k := ⟨_, rfl⟩
    rw [← hj]
    cases j with
    | zero =>
      obtain rfl : k = l.length := by omega
      rw [show ((0 : Nat) : Int) - 1 = -1 from rfl, evh_end]
      have HB := Lib.hid hb
      clear hj hk hb
      go_wp2
      go_ret
      exact ⟨rfl, HB.out⟩
    | succ q =>
      have hq : q < l.length := by omega
      have hql : l.length - 1 - k = q := by omega
      obtain ⟨b, o, c, e, hc⟩ := (HL.out.hold hb).cells q hq
      obtain ⟨rfl, rfl⟩ : a0 = some ⟨b, o, none⟩ ∧ c0 = c := by simp at e; exact e
      have hux := HL.out.us l[q] (List.getElem_mem hq)
      have hev : ad p (ml p (evh p l x k) x) l[q] = evh p l x (k + 1) := by rw [evh, hql, getD_lt _ hq]
      obtain ⟨y, hy⟩ : ∃ y, y = l[q] := ⟨_, rfl⟩
      obtain ⟨z, hz⟩ : ∃ z, z = evh p l x k := ⟨_, rfl⟩
      have hzU : U z := by rw [hz]; infer_instance
      rw [← hy] at hux hc hev
      rw [← hz] at hev ⊢
      have hk1 : k + 1 ≤ l.length := by omega
      have hkq : l.length - (k + 1) = q := by omega
      have HV := Lib.hid (And.intro hev (And.intro hb (And.intro hk1 hkq)))
      rw [show (((q + 1 : Nat) : Int) - 1) = (q : Int) by omega]
      have q0 : (0 : Int) ≤ (q : Int) := by omega
      have q1 : (q : Int) < (l.length : Int) := by omega
      have q2 : (q : Int) ≤ 100000 := by omega
      clear e hy hz hev hb hk1 hkq hj hk hql hq
      go_wp2_with fail
      have k0 := fun q : NwAt wr => q.nw.hold hc
      refine from_here ?_
      intro q
      refine wp_region_nw (by kernel_rfl) (by kernel_rfl) ?_
      repeat (go_big_quiet_step ((first | (go_at_call 27; exact nwAt_of (rMul_u _ _ _ _)) | (go_at_call 25; exact nwAt_of (rAdd_u _ _ _ _)))))
      refine wpQuiet_nil ?_
      clear q
      rintro _ ⟨q, rfl⟩
      rw [HV.out.1]
      go_wp2
      exact ⟨⟨k + 1, HV.out.2.2.1, by rw [HV.out.2.2.2], rfl, Below.next (Nat.le_refl _) HV.out.2.1 q.nw.b⟩, by first | (simp [intOf]; done) | (simp [intOf]; omega)⟩

noncomputable def errE (p : Int) (a : List Int) (s n : Int) : Int := if errD p s n = 0 then (if a.length ≤ 8192 then 0 else 3) else errD p s n
/-- The values at the points of a domain. -/
def evL (p : Int) (a : List Int) (s n : Int) : List Int := (List.range n.toNat).map fun i => ival p (Po.ev (pf p a) (dpt p s n i) a.length)
noncomputable def resE (p : Int) (a : List Int) (s n : Int) : List Int := if errE p a s n = 0 then evL p a s n else []
theorem errD_cases (p s n : Int) : errD p s n = 0 ∨ errD p s n = 1 ∨ errD p s n = 7 := by
  unfold errD
  split
  · split
    · exact .inl rfl
    · exact .inr (.inl rfl)
  · exact .inr (.inr rfl)
theorem updK_evL {p : Int} (a : List Int) (s n : Int) : updK (fun i => ival p (Po.ev (pf p a) (dpt p s n i) a.length)) (domL p s n) 0 (domL p s n).length = evL p a s n := by
  refine List.ext_getElem (by rw [updK_len, domL_len]; simp [evL]) fun i h1 h2 => ?_
  rw [updK_len] at h1
  simp only [updK, evL, List.getElem_map, List.getElem_range]
  rw [if_pos (by omega)]

set_option maxHeartbeats 4000000 in
theorem uEvaluate_u (p s n : Int) [hs : U s] (va : Value) (a : List Int) (w : World) (hla : Lst w va a) (hna : a.length ≤ 100000) (hn0 : -9223372036854775808 ≤ n) (hn1 : n ≤ 9223372036854775807) :
    Calls Try.prog 12 #[.int .u64 p, va, .int .u64 s, .int .i64 n] w (Pair w (resE p a s n) (errE p a s n)) := by
  obtain ⟨a0, c0, rfl⟩ := hla.shape
  have HL := Lib.hid hla
  clear hla
  by_cases he : errD p s n = 0
  · have hk := (errD_zero.1 he).1.1.1
    have hn4 := (errD_zero.1 he).1.2
    have hnp := (errD_zero.1 he).1.1.2.1
    have hr : resD p s n = domL p s n := by rw [resD, if_pos he]
    by_cases hl : a.length ≤ 8192
    · have h1 : errE p a s n = 0 := by rw [errE, if_pos he, if_pos hl]
      have h2 : resE p a s n = evL p a s n := by rw [resE, if_pos h1]
      rw [h1, h2]
      obtain ⟨L, hL⟩ : ∃ L, L = domL p s n := ⟨_, rfl⟩
      have hLn : L.length = n.toNat := by rw [hL, domL_len]
      have hup := updK_evL (p := p) a s n
      rw [← hL] at hup
      have hLv : ∀ i (h : i < L.length), L[i] = ival p (dpt p s n i) := fun i h => by subst hL; simp [domL]
      have HK := Lib.hid (And.intro hk (And.intro he (And.intro hr (And.intro hL (And.intro hup hLv)))))
      have i1 : (a.length : Int) ≤ 8192 := by omega
      have hL2 : (L.length : Int) ≤ 4096 := by omega
      have HLn := Lib.hid hLn
      clear h1 h2 he hr hL hup hLv hk hLn
      go_enter Try.func12, Try.ntmps12
      go_wp2_with (go_at_call 17; refine (uDomain_u p s n hn0 hn1 _).mono ?_; rintro _ w1 ⟨v1, rfl, hown, hb1⟩; rw [HK.out.2.1]; rw [HK.out.2.2.1, ← HK.out.2.2.2.1] at hown)
      obtain ⟨g, c, rfl⟩ : ∃ g c, v1 = .slice (some ⟨g, 0, none⟩) L.length c := by
        rcases hown.cases with ⟨_, e⟩ | ⟨g, c, e, _⟩
        · have hLn := HLn.out; rw [e] at hLn; simp at hLn; omega
        · exact ⟨g, c, e⟩
      have HO := Lib.hid (And.intro hown hb1)
      clear hown hb1
      go_loopw [12] (fun iv wr => ∃ k : Nat, iv = .int .i64 k ∧ k ≤ L.length ∧ Own wr w.heap.size (.slice (some ⟨g, 0, none⟩) L.length c) (updK (fun i => ival p (Po.ev (pf p a) (dpt p s n i) a.length)) L 0 k) ∧ Below w.heap.size w wr) (fun iv _ => L.length - (intOf iv).toNat)
      case atStart => exact ⟨0, rfl, Nat.zero_le _, by rw [updK_zero]; exact HO.out.1, HO.out.2⟩
      case round =>
        obtain ⟨k, rfl, hk, hown, hb⟩ := hrel
        have i0 : (0 : Int) ≤ (k : Int) := by omega
        by_cases hlt : k < L.length
        · have hc : wr.cell? ⟨g, k, none⟩ = some (.int .u64 L[k]) := by
            rw [hown.cell (by rw [updK_len]; exact hlt), updK_at0 hlt]
          have hz := hown.thawed k
          have hLk := HK.out.2.2.2.2.2 k hlt
          have hset := updK_set0 (f := fun i => ival p (Po.ev (pf p a) (dpt p s n i) a.length)) (L := L) (k := k)
          obtain ⟨x, hx⟩ : ∃ x, x = L[k] := ⟨_, rfl⟩
          rw [← hx] at hc hLk
          have hxU : U x := by rw [hLk]; infer_instance
          have hval : ival p (Po.ev (pf p a) (dpt p s n k) a.length) = ival p (Po.ev (pf p a) (ph p x) a.length) := by rw [hLk, ph_ival HK.out.1]
          have hset2 : (updK (fun i => ival p (Po.ev (pf p a) (dpt p s n i) a.length)) L 0 k).set k (ival p (Po.ev (pf p a) (ph p x) a.length)) = updK (fun i => ival p (Po.ev (pf p a) (dpt p s n i) a.length)) L 0 (k + 1) := by rw [← hval]; exact hset
          obtain ⟨y, hy⟩ : ∃ y, y = ival p (Po.ev (pf p a) (ph p x) a.length) := ⟨_, rfl⟩
          have hyU : U y := by rw [hy]; infer_instance
          rw [← hy] at hset2
          have i2 : (k : Int) < (L.length : Int) := by omega
          have HW := Lib.hid (And.intro hown (And.intro hb (And.intro hset2 hy)))
          clear hown hb hset hset2 hx hLk hval hy hlt
          go_wp2_with (go_at_call 21; refine (uEval_u p x _ a _ ((HL.out.hold HW.out.2.1)) (by omega)).mono ?_; rintro _ w2 ⟨rfl, hb2⟩; rw [← HW.out.2.2.2]; have hc2 := Below.hold hb2 hc; have hz2 := (hb2.frozen (p := ⟨g, k, none⟩) (World.block_lt_of_cell? _ _ hc)).trans hz)
          have hs := (HW.out.1.hold hb2).set k y
          refine ⟨⟨k + 1, by go_num, by omega, by rw [← HW.out.2.2.1]; exact hs.1, Below.wrote (Below.next (Nat.le_refl _) HW.out.2.1 hb2) (Nat.le_refl _) (Nat.le_trans HW.out.2.1.size hb2.size) (HW.out.1.hold hb2) hs.2⟩, by simp [intOf]; omega⟩
        · obtain rfl : k = L.length := by omega
          rw [HK.out.2.2.2.2.1] at hown
          have HW := Lib.hid (And.intro hown hb)
          clear hown hb
          go_wp2
          refine bodyPost_ret (results_tmp2 rfl _ _ _) rfl ?_
          exact ⟨_, rfl, HW.out.1, HW.out.2⟩
    · have h1 : errE p a s n = 3 := by rw [errE, if_pos he, if_neg hl]
      have h2 : resE p a s n = [] := by rw [resE, if_neg (by rw [h1]; decide)]
      rw [h1, h2]
      have HK := Lib.hid he
      have i1 : ¬ ((a.length : Int) ≤ 8192) := by omega
      clear h1 h2 he hr hk
      go_enter Try.func12, Try.ntmps12
      go_wp2_with (go_at_call 17; refine (uDomain_u p s n hn0 hn1 _).mono ?_; rintro _ w1 ⟨v1, rfl, hown, hb1⟩; rw [HK.out])
      refine bodyPost_ret (results_tmp2 rfl _ _ _) rfl ?_
      exact ⟨_, rfl, Own.nil _ _, hb1⟩
  · have h1 : errE p a s n = errD p s n := by rw [errE, if_neg he]
    have h2 : resE p a s n = [] := by rw [resE, if_neg (by rw [h1]; exact he)]
    rw [h1, h2]
    obtain ⟨er, her⟩ : ∃ er, er = errD p s n := ⟨_, rfl⟩
    rw [← her] at he ⊢
    have hne : (er != 0) = true := by simpa using he
    have HK := Lib.hid her
    clear h1 h2 her
    go_enter Try.func12, Try.ntmps12
    go_wp2_with (go_at_call 17; refine (uDomain_u p s n hn0 hn1 _).mono ?_; rintro _ w1 ⟨v1, rfl, hown, hb1⟩; rw [← HK.out])
    refine bodyPost_ret (results_tmp2 rfl _ _ _) rfl ?_
    exact ⟨_, rfl, Own.nil _ _, hb1⟩
end Go.Proofs.Ytnmbggdfcgbniaa
