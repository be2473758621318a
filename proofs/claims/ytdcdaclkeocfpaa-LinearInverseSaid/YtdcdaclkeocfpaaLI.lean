/- The walk of the statement on Inverse. -/
import Derived.Test.YtdcdaclkeocfpaaKQ
namespace Go.Proofs.Ytdcdaclkeocfpaa
open Go.RowKit Go.BigFrame
open Classical

set_option maxRecDepth 100000 in
set_option maxHeartbeats 16000000 in
theorem law_jinverse (p : Int) [hU : U p] (v : Value) (M : List (List Int)) (w : World) (hM : MatR w v M) (hn : M.length ≤ 9223372036854775807) (hr : ∀ i (h : i < M.length), M[i].length ≤ 9223372036854775807) :
    Calls Try.prog 6 #[.int .u64 p, v] w fun e w' => e = .returned (.bool true) ∧ Below w.heap.size w w' := by
  obtain ⟨a0, c0, rfl⟩ := hM.shape
  have HM := Lib.hid (And.intro hM hr)
  clear hM hr
  by_cases hs : Sml M 6
  · obtain ⟨b1, b2⟩ := hs.rows (m := 100) (by decide)
    obtain ⟨b3, b4⟩ := hs.rows (m := 100000) (by decide)
    have HS := Lib.hid (And.intro (decide_eq_true hs) (And.intro b2 b4))
    have b6 := hs.2
    clear hs b2 b4
    go_enter Try.func6, Try.ntmps6
    go_upto_region 3 with (first
      | (go_at_call 16; refine (awake5_u _).mono ?_; rintro _ w1 ⟨rfl, hb1⟩)
      | (go_at_call 29; refine (kSmall_u _ M 6 _ (HM.out.1.hold hb1) hn HM.out.2 (by decide)).mono ?_; rintro e w2 ⟨rfl, hw2⟩; obtain rfl : w1 = w2 := hw2.symm; rw [HS.out.1]))
    have HB := Lib.hid hb1
    clear hb1
    go_upto_region 4 with (first
      | (go_at_call 19; refine (cp5_u _ M _ (HM.out.1.hold HB.out) b3 HS.out.2.2).mono ?_; rintro _ w3 ⟨v3, rs, rfl, hown, hb3⟩)
      | (go_at_call 30; refine (mInverse_p p v3 M _ hown.matR b1 HS.out.2.1).mono ?_; rintro _ w4 ⟨v4, fb, X, rfl, hX, hinv, hb4⟩))
    have HX := Lib.hid (And.intro hX (And.intro hinv (Below.next (Nat.le_refl _) (Below.next (Nat.le_refl _) HB.out hb3) hb4)))
    have hdet := hinv.det
    obtain ⟨a4, n4, rfl⟩ := hX.shape
    obtain ⟨D, hD⟩ : ∃ D, D = detI p M := ⟨_, rfl⟩
    have hDU : U D := by rw [hD]; infer_instance
    rw [← hD] at hdet
    have HD := Lib.hid hD
    clear hX hinv hb3 hb4 hown hD
    cases fb with
    | false =>
      have hX0 := HX.out.2.1.none
      subst hX0
      have hd2 : (D != 0) = false := hdet.symm
      clear hdet
      go_wp2_with (go_at_call 31; refine (kDet_u p M.length _ M _ rfl (HM.out.1.hold HX.out.2.2) b3 HS.out.2.2).mono ?_; rintro _ w5 ⟨rfl, hb5⟩; rw [← HD.out])
      go_ret
      exact ⟨rfl, Below.next (Nat.le_refl _) HX.out.2.2 hb5⟩
    | true =>
      have hd2 : (D != 0) = true := hdet.symm
      clear hdet
      obtain ⟨hok, hsq, hmt, -⟩ := HX.out.2.1.some
      have hXl := hmt.len
      have hpl := known_lo hok.1
      have hXr : ∀ i (h : i < X.length), X[i].length = M.length := fun i h => hmt.row i h
      have hXd := hmt.red
      have hprod := fun h => HX.out.2.1.products h
      have HK := Lib.hid (And.intro hok (And.intro hXl (And.intro hXr (And.intro hXd hprod))))
      clear hok hsq hmt hXl hXr hXd hprod
      go_wp2_with (first
        | (go_at_call 31; refine (kDet_u p M.length _ M _ rfl (HM.out.1.hold HX.out.2.2) b3 HS.out.2.2).mono ?_; rintro _ w5 ⟨rfl, hb5⟩; rw [← HD.out])
        | (go_at_call 32; refine (kIdentity_u M.length _ (by omega)).mono ?_; rintro _ w6 ⟨v6, rs6, rfl, hown6, hb6⟩))
      have hXw := (HX.out.1.hold hb5).hold hb6
      have HZ := Lib.hid (And.intro hXw (And.intro hown6.matR (Below.next (Nat.le_refl _) (Below.next (Nat.le_refl _) HX.out.2.2 hb5) hb6)))
      have i1 : (X.length : Int) ≤ 100 := by have := HK.out.2.1; omega
      clear hXw hown6 hb5 hb6
      go_loopw [44] (fun iv wr => ∃ i : Nat, iv = .int .i64 i ∧ i ≤ X.length ∧ wr = w6) (fun iv _ => X.length - (intOf iv).toNat)
      case atStart => exact ⟨0, rfl, Nat.zero_le _, rfl⟩
      case round =>
        obtain ⟨i, rfl, hi, hwr⟩ := hrel
        obtain rfl : w6 = wr := hwr.symm
        have i0 : (0 : Int) ≤ (i : Int) := by omega
        by_cases hlt : i < X.length
        · obtain ⟨b, o, cx, rv, e, hcr, hlr⟩ := HZ.out.1.rows i hlt
          obtain ⟨rfl, rfl⟩ : a4 = some ⟨b, o, none⟩ ∧ n4 = cx := by simp at e; exact e
          have hrl := HK.out.2.2.1 i hlt
          have hrd := HK.out.2.2.2.1 i hlt
          obtain ⟨Y, hY⟩ : ∃ Y, Y = X[i] := ⟨_, rfl⟩
          rw [← hY] at hlr hrl hrd
          have i2 : (i : Int) < (X.length : Int) := by omega
          have i3 : (Y.length : Int) ≤ 100 := by omega
          obtain ⟨ar, nr, rfl⟩ := hlr.shape
          have HV := Lib.hid (And.intro hlr hrd)
          clear hlr hrd hY e hrl
          go_wp2
          go_loopw [50] (fun jv wx => ∃ j : Nat, jv = .int .i64 j ∧ j ≤ Y.length ∧ wx = w6) (fun jv _ => Y.length - (intOf jv).toNat)
          case atStart => exact ⟨0, rfl, Nat.zero_le _, rfl⟩
          case round =>
            obtain ⟨j, rfl, hj, hwx⟩ := hrel
            obtain rfl : w6 = wr := hwx.symm
            have j0 : (0 : Int) ≤ (j : Int) := by omega
            by_cases hjl : j < Y.length
            · obtain ⟨b2, o2, cy, e2, hcc⟩ := HV.out.1.cells j hjl
              obtain ⟨rfl, rfl⟩ : ar = some ⟨b2, o2, none⟩ ∧ nr = cy := by simp at e2; exact e2
              have hy := HV.out.2 Y[j] (List.getElem_mem hjl)
              obtain ⟨y, hyy⟩ : ∃ y, y = Y[j] := ⟨_, rfl⟩
              rw [← hyy] at hcc hy
              have j1 : (j : Int) < (Y.length : Int) := by omega
              have j2 : decide (p ≤ y) = false := by simp; omega
              have j3 : ¬ p ≤ y := by omega
              clear e2 hy hyy
              go_wp2
              exact ⟨⟨j + 1, by go_num, by omega, by first | rfl | trivial⟩, by simp [intOf]; omega⟩
            · obtain rfl : j = Y.length := by omega
              go_wp2
              exact ⟨⟨i + 1, by go_num, by omega, by first | rfl | trivial⟩, by simp [intOf]; omega⟩
        · obtain rfl : i = X.length := by omega
          have k1 : ((X.length : Int) == (M.length : Int)) = true := by rw [HK.out.2.1]; simp
          by_cases hm0 : M.length = 0
          · have k2 : ((M.length : Int) == 0) = true := by rw [hm0]; rfl
            clear hm0
            go_wp2
            go_ret
            exact ⟨rfl, HZ.out.2.2⟩
          · have k2 : ((M.length : Int) == 0) = false := beq_eq_false_iff_ne.2 (show (M.length : Int) ≠ 0 by omega)
            have hprod := HK.out.2.2.2.2 (by omega)
            have HP := Lib.hid hprod
            have HLt := Lib.hid (show (idL M.length).length ≤ 100000 ∧ ∀ i (h : i < (idL M.length).length), (idL M.length)[i].length ≤ 100000 from ⟨by rw [show (idL M.length).length = M.length by simp [idL]]; exact b3, fun i h => by rw [show (idL M.length)[i].length = M.length by simp [idL, idRow]]; exact b3⟩)
            have hX3 : X.length ≤ 100000 := by omega
            have hXr : ∀ i (h : i < X.length), X[i].length ≤ 100000 := fun i h => by rw [HK.out.2.2.1 i h]; omega
            have HXr := Lib.hid hXr
            clear hprod hm0 hXr
            go_wp2_with (first
              | (go_at_call 33; (with_reducible show Calls _ _ #[_, .slice a4 _ _, .slice a0 _ _] _ _); refine (kMultiply_u p _ _ X M _ HZ.out.1 (HM.out.1.hold HZ.out.2.2) hX3 b3 HXr.out HS.out.2.2).mono ?_; rintro _ w7 ⟨v7, rs7, rfl, hown7, hb7⟩; rw [HP.out.1] at hown7)
              | (go_at_call 21; (with_reducible show Calls _ _ #[v7, _] _ _); refine (kSame_b _ _ (idL M.length) (idL M.length) _ hown7.matR (HZ.out.2.1.hold hb7) HLt.out.1 HLt.out.1 HLt.out.2 HLt.out.2).mono ?_; rintro _ w8 ⟨rfl, hb8⟩; rw [decide_eq_true (rfl : idL M.length = idL M.length)]; have g8 := Below.next (Nat.le_refl _) hb7 hb8)
              | (go_at_call 33; refine (kMultiply_u p _ _ M X _ ((HM.out.1.hold HZ.out.2.2).hold g8) (HZ.out.1.hold g8) b3 hX3 HS.out.2.2 HXr.out).mono ?_; rintro _ w9 ⟨v9, rs9, rfl, hown9, hb9⟩; rw [HP.out.2] at hown9; have g9 := Below.next (Nat.le_refl _) g8 hb9)
              | (go_at_call 21; refine (kSame_b _ _ (idL M.length) (idL M.length) _ hown9.matR (HZ.out.2.1.hold g9) HLt.out.1 HLt.out.1 HLt.out.2 HLt.out.2).mono ?_; rintro _ w10 ⟨rfl, hb10⟩; rw [decide_eq_true (rfl : idL M.length = idL M.length)]; have g10 := Below.next (Nat.le_refl _) g9 hb10)
              | fail)
            go_ret
            exact ⟨rfl, Below.next (Nat.le_refl _) HZ.out.2.2 g10⟩
  · have HS := Lib.hid (decide_eq_false hs)
    clear hs
    go_enter Try.func6, Try.ntmps6
    go_upto_region 2 with (first
      | (go_at_call 16; refine (awake5_u _).mono ?_; rintro _ w1 ⟨rfl, hb1⟩)
      | (go_at_call 29; refine (kSmall_u _ M 6 _ (HM.out.1.hold hb1) hn HM.out.2 (by decide)).mono ?_; rintro e w2 ⟨rfl, rfl⟩; rw [HS.out]))
    have HB := Lib.hid hb1
    clear hb1
    go_wp2_with (go_at_call 16; refine (awake5_u _).mono ?_; rintro _ w3 ⟨rfl, hb3⟩)
    go_ret
    exact ⟨rfl, Below.next (Nat.le_refl _) HB.out hb3⟩
end Go.Proofs.Ytdcdaclkeocfpaa
