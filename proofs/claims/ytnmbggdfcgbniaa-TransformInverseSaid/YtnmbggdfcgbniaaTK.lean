/- The walk of the statement on interpolation. -/
import Derived.Test.YtnmbggdfcgbniaaTJ
import Derived.Test.YtnmbggdfcgbniaaTI
namespace Go.Proofs.Ytnmbggdfcgbniaa
open Go.RowKit Go.BigFrame
open Classical

set_option maxRecDepth 100000 in
set_option maxHeartbeats 8000000 in
theorem law_tinterpolate (p s : Int) [hU : U p] [hs : U s] (va : Value) (a : List Int) (w : World) (hla : Lst w va a) (hna : a.length ≤ 9223372036854775807) :
    Calls Try.prog 6 #[.int .u64 p, va, .int .u64 s] w fun e w' => e = .returned (.bool true) ∧ Below w.heap.size w w' := by
  obtain ⟨a0, c0, rfl⟩ := hla.shape
  have HL := Lib.hid hla
  clear hla
  by_cases hsm : a.length ≤ 64
  · have i1 : (a.length : Int) ≤ 64 := by omega
    by_cases he : errD p s a.length = 0
    · have hk := (errD_zero.1 he).1.1.1
      have hpl := known_lo hk
      have hp0 : ¬ p = 0 := by omega
      have hp1 : (p == 0) = false := by simpa using hp0
      have hph := known_hi hk
      obtain ⟨x, hx⟩ : ∃ x, x = resI p s a := ⟨_, rfl⟩
      have hxi : x = intL p s a := by rw [hx, resI, if_pos he]
      have hxl : x.length = a.length := by rw [hxi, intL_len]
      have hdl : resD p s a.length = domL p s a.length := by rw [resD, if_pos he]
      have hval : ∀ k (h : k < a.length), ival p (Po.ev (pf p x) (dpt p s a.length k) x.length) = a[k] % p := fun k h => by rw [hxl, hxi, intL_ev he h, ← ival_ph hk]
      have HX := Lib.hid (And.intro hx (And.intro he (And.intro hk (And.intro hxl (And.intro hdl hval)))))
      have hxl2 : x.length ≤ 64 := by omega
      clear hx he hk hxi hxl hdl hval
      go_enter Try.func6, Try.ntmps6
      go_wp2_with fail
      refine (awake4_u _).mono ?_
      rintro _ w1 ⟨rfl, hb1⟩
      have HB1 := Lib.hid hb1
      clear hb1
      go_wp2_with fail
      refine (tInterpolate_p p s _ a _ (HL.out.hold HB1.out) (by omega)).mono ?_
      rintro _ w2 ⟨v2, rfl, hl2, hb2⟩
      rw [HX.out.2.1]
      rw [← HX.out.1] at hl2
      have HB2 := Lib.hid (Below.next (Nat.le_refl _) HB1.out hb2)
      have HL2 := Lib.hid hl2
      clear hb2 hl2
      go_wp2_with fail
      refine (uInterpolate_u p s _ a _ (HL.out.hold HB2.out) (by omega)).mono ?_
      rintro _ w3 ⟨v3, rfl, hl3, hb3⟩
      rw [HX.out.2.1]
      rw [← HX.out.1] at hl3
      have HB3 := Lib.hid (Below.next (Nat.le_refl _) HB2.out hb3)
      replace HL2 := Lib.hid (HL2.out.hold hb3)
      have HL3 := Lib.hid hl3.lst
      clear hb3 hl3
      go_wp2_with fail
      refine (uSame_u _ _ x x _ HL2.out HL3.out (by omega) (by omega)).mono ?_
      rintro _ w4 ⟨rfl, hb4⟩
      rw [decide_eq_true (rfl : x = x)]
      have HB4 := Lib.hid (Below.next (Nat.le_refl _) HB3.out hb4)
      replace HL2 := Lib.hid (HL2.out.hold hb4)
      clear hb4
      go_wp2_with fail
      refine (uDomain_u p s a.length (by omega) (by omega) _).mono ?_
      rintro _ w5 ⟨v5, rfl, hl5, hb5⟩
      rw [HX.out.2.2.2.2.1] at hl5
      have HB5 := Lib.hid (Below.next (Nat.le_refl _) HB4.out hb5)
      replace HL2 := Lib.hid (HL2.out.hold hb5)
      obtain ⟨l, hld⟩ : ∃ l, l = domL p s a.length := ⟨_, rfl⟩
      rw [← hld] at hl5
      have hll : l.length = a.length := by rw [hld, domL_len]; exact Int.toNat_natCast _
      have hlv : ∀ k (h : k < l.length), l[k] = ival p (dpt p s a.length k) := fun k h => by subst hld; simp [domL]
      obtain ⟨a5, c5, rfl⟩ := hl5.lst.shape
      have HL5 := Lib.hid (And.intro hl5.lst (And.intro hll hlv))
      have i2 : (l.length : Int) ≤ 64 := by omega
      clear hb5 hl5 hld hll hlv
      go_wp2
      go_loopw [68] (fun iv wr => ∃ k : Nat, iv = .int .i64 k ∧ k ≤ l.length ∧ Below w5.heap.size w5 wr) (fun iv _ => l.length - (intOf iv).toNat)
      case atStart => exact ⟨0, rfl, Nat.zero_le _, Below.refl _ _⟩
      case round =>
        obtain ⟨k, rfl, hk, hb⟩ := hrel
        have i0 : (0 : Int) ≤ (k : Int) := by omega
        by_cases hlt : k < l.length
        · have hlt2 : k < a.length := by have := HL5.out.2.1; omega
          obtain ⟨bx, ox, cx, e1, g1⟩ := (HL5.out.1.hold hb).cells k hlt
          obtain ⟨by_, oy, cy, e2, g2⟩ := ((HL.out.hold HB5.out).hold hb).cells k hlt2
          obtain ⟨rfl, rfl⟩ : a5 = some ⟨bx, ox, none⟩ ∧ c5 = cx := by simp at e1; exact e1
          obtain ⟨rfl, rfl⟩ : a0 = some ⟨by_, oy, none⟩ ∧ c0 = cy := by simp at e2; exact e2
          have hu1 := HL5.out.1.us l[k] (List.getElem_mem hlt)
          have hu2 := HL.out.us a[k] (List.getElem_mem hlt2)
          have hv := HX.out.2.2.2.2.2 k hlt2
          have hph2 : ph p l[k] = dpt p s a.length k := by rw [HL5.out.2.2 k hlt, ph_ival HX.out.2.2.1]
          rw [← hph2] at hv
          obtain ⟨z, hz⟩ : ∃ z, z = l[k] := ⟨_, rfl⟩
          obtain ⟨y, hy⟩ : ∃ y, y = a[k] := ⟨_, rfl⟩
          rw [← hz] at g1 hu1 hv
          rw [← hy] at g2 hu2 hv
          have hy0 := hu2.lo
          have hy1 := hu2.hi
          have ht : y.tmod p = y % p := Int.tmod_eq_emod_of_nonneg hy0
          have hm0 := Int.emod_nonneg y hp0
          have hm1 := Int.emod_lt_of_pos y (show 0 < p by omega)
          have hwr : IntKind.u64.wrap (y % p) = y % p := by rw [IntKind.wrap_u64]; omega
          have i3 : (k : Int) < (l.length : Int) := by omega
          have i4 : (k : Int) < (a.length : Int) := by omega
          have HV := Lib.hid (And.intro hv hb)
          clear hv hb hz hy hph2 e1 e2
          go_upto_region 11 with fail
          rename World => wr
          have m1 := fun q : BwAt wr => Below.hold q.bw g1
          have m2 := fun q : BwAt wr => Below.hold q.bw g2
          have HE := Lib.hid (fun q : BwAt wr => (HL2.out.hold HV.out.2).hold q.bw)
          clear g1 g2
          refine from_now ?_
          intro q
          refine wp_region_bw (by kernel_rfl) (by kernel_rfl) ?_
          repeat (go_big_quiet_step ((first | (go_at_call 21; exact bwAt_of (uEval_u p z _ x _ (HE.out _) (by omega))))))
          refine wpQuiet_nil ?_
          clear q
          rintro _ ⟨q, rfl⟩
          rw [HV.out.1]
          have HRq := Lib.hid (Below.next (Nat.le_refl _) HV.out.2 q.bw)
          clear m1 m2
          go_wp2
          exact ⟨⟨k + 1, by go_num, by omega, HRq.out⟩, by simp [intOf]; omega⟩
        · obtain rfl : k = l.length := by omega
          have HW := Lib.hid hb
          clear hb
          go_wp2
          go_ret
          exact ⟨rfl, Below.next (Nat.le_refl _) HB5.out HW.out⟩
    · obtain ⟨x, hx⟩ : ∃ x, x = resI p s a := ⟨_, rfl⟩
      have hxl : x.length ≤ 64 := by have := resI_len p s a; rw [← hx] at this; omega
      obtain ⟨er, her⟩ : ∃ er, er = errD p s a.length := ⟨_, rfl⟩
      rw [← her] at he
      have hne : (er != 0) = true := by simpa using he
      have HX := Lib.hid (And.intro hx her)
      clear hx her
      go_enter Try.func6, Try.ntmps6
      go_wp2_with fail
      refine (awake4_u _).mono ?_
      rintro _ w1 ⟨rfl, hb1⟩
      have HB1 := Lib.hid hb1
      clear hb1
      go_wp2_with fail
      refine (tInterpolate_p p s _ a _ (HL.out.hold HB1.out) (by omega)).mono ?_
      rintro _ w2 ⟨v2, rfl, hl2, hb2⟩
      rw [← HX.out.2]
      rw [← HX.out.1] at hl2
      have HB2 := Lib.hid (Below.next (Nat.le_refl _) HB1.out hb2)
      have HL2 := Lib.hid hl2
      clear hb2 hl2
      go_wp2_with fail
      refine (uInterpolate_u p s _ a _ (HL.out.hold HB2.out) (by omega)).mono ?_
      rintro _ w3 ⟨v3, rfl, hl3, hb3⟩
      rw [← HX.out.2]
      rw [← HX.out.1] at hl3
      have HB3 := Lib.hid (Below.next (Nat.le_refl _) HB2.out hb3)
      replace HL2 := Lib.hid (HL2.out.hold hb3)
      have HL3 := Lib.hid hl3.lst
      clear hb3 hl3
      go_wp2_with fail
      refine (uSame_u _ _ x x _ HL2.out HL3.out (by omega) (by omega)).mono ?_
      rintro _ w4 ⟨rfl, hb4⟩
      rw [decide_eq_true (rfl : x = x)]
      have HB4 := Lib.hid (Below.next (Nat.le_refl _) HB3.out hb4)
      replace HL2 := Lib.hid (HL2.out.hold hb4)
      replace HL3 := Lib.hid (HL3.out.hold hb4)
      clear hb4
      go_wp2_with fail
      refine (uSame_u _ _ x x _ HL2.out HL3.out (by omega) (by omega)).mono ?_
      rintro _ w5 ⟨rfl, hb5⟩
      rw [decide_eq_true (rfl : x = x)]
      have HB5 := Lib.hid (Below.next (Nat.le_refl _) HB4.out hb5)
      clear hb5
      go_wp2
      go_ret
      exact ⟨by simp, HB5.out⟩
  · have i1 : ¬ (a.length : Int) ≤ 64 := by omega
    go_enter Try.func6, Try.ntmps6
    go_upto_region 2 with (go_at_call 10; refine (awake4_u _).mono ?_; rintro _ w1 ⟨rfl, hb1⟩)
    have HB := Lib.hid hb1
    clear hb1
    go_wp2_with (go_at_call 10; refine (awake4_u _).mono ?_; rintro _ w1 ⟨rfl, hb1⟩)
    go_ret
    exact ⟨rfl, Below.next (Nat.le_refl _) HB.out hb1⟩
end Go.Proofs.Ytnmbggdfcgbniaa
