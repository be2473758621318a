/- The walk of the statement on the transform's matrix. -/
import Derived.Test.YtdcdaclkeocfpaaVM
namespace Go.Proofs.Ytdcdaclkeocfpaa
open Go.RowKit Go.BigFrame
open Classical

set_option maxRecDepth 100000 in
set_option maxHeartbeats 8000000 in
theorem law_jtransformmatrix (n0 : Int) (hn0 : 0 ≤ n0 ∧ n0 ≤ 255) (va : Value) (a : List Int) (w : World) (hA : Lst w va a) (hn : a.length ≤ 9223372036854775807) :
    Calls Try.prog 13 #[.int .u8 n0, va] w fun e w' => e = .returned (.bool true) ∧ Below w.heap.size w w' := by
  obtain ⟨a0, c0, rfl⟩ := hA.shape
  have HM := Lib.hid hA
  clear hA
  have hk := prime_known n0
  obtain ⟨p, hp⟩ : ∃ p, p = prime n0 := ⟨_, rfl⟩
  rw [← hp] at hk
  have HP := Lib.hid hp
  have HKn := Lib.hid hk
  have hU : U p := known_u hk
  clear hp hk
  go_enter Try.func13, Try.ntmps13
  go_upto_region 2 with (go_at_call 35; refine (rPrime_any n0 hn0.1 hn0.2 _).mono ?_; rintro _ w0 ⟨rfl, hb0⟩; rw [← HP.out])
  refine name_world ?_
  intro W hW
  have hf : W.cell? ⟨w0.heap.size, 0, none⟩ = some (.int .u64 p) := by rw [hW]; go_simp
  have hbW : Below w.heap.size w W := by rw [hW]; exact Below.made (Nat.le_refl _) hb0.b _
  have HBW := Lib.hid hbW
  clear hW hbW hb0
  by_cases hs : a.length ≤ 16
  · have i1 : ¬ (16 : Int) < (a.length : Int) := by omega
    have i2 : (0 : Int) ≤ (a.length : Int) := by omega
    go_upto_region 4 with (go_at_call 45; refine (awake05_u _).mono ?_; rintro _ w1 ⟨rfl, hb1⟩)
    have HB1 := Lib.hid (Below.next (Nat.le_refl _) HBW.out hb1)
    have hf1 := Below.hold hb1 hf
    clear hb1 hf
    by_cases hd : errD p 1 a.length = 0
    · have hD : resD p 1 a.length = domL p 1 a.length := by rw [resD, if_pos hd]
      have hDl : (domL p 1 a.length).length = a.length := by rw [domL_len]; simp
      have hE : errE p a 1 a.length = 0 := errE_ok HKn.out (errD_zero.1 hd).1 (by omega)
      have hR : resE p a 1 a.length = evL p a 1 a.length := by rw [resE, if_pos hE]
      have hI : resI p 1 a = intL p 1 a := by rw [resI, if_pos hd]
      have hap := van_apL hd (by omega)
      have HD := Lib.hid (And.intro hd (And.intro hD (And.intro hDl (And.intro hE (And.intro hR (And.intro hI hap))))))
      clear hd hD hDl hE hR hI hap
      go_upto_region 5 with (go_at_call 46; refine (tDomain_p p 1 a.length (by omega) (by omega) _).mono ?_; rintro _ w2 ⟨v2, rfl, hl2, hb2⟩; rw [HD.out.1]; rw [HD.out.2.1] at hl2)
      have HB2 := Lib.hid (Below.next (Nat.le_refl _) HB1.out hb2)
      have hf2 := Below.hold hb2 hf1
      have HL2 := Lib.hid hl2
      clear hb2 hf1 hl2
      go_upto_region 8 with (go_at_call 49; refine (powers05_u p HKn.out v2 _ _ HL2.out (by rw [HD.out.2.2.1]; omega)).mono ?_; rintro _ w3 ⟨v3, rfl, hM3, hb3⟩; rw [HD.out.2.2.1] at hM3)
      have HB3 := Lib.hid (Below.next (Nat.le_refl _) HB2.out hb3)
      have hf3 := Below.hold hb3 hf2
      obtain ⟨M, hMe⟩ : ∃ M, M = vanM p a.length (domL p 1 a.length) := ⟨_, rfl⟩
      rw [← hMe] at hM3
      have hMl : M.length = a.length := by rw [hMe, vanM_len, HD.out.2.2.1]
      have hMr : ∀ i (h : i < M.length), M[i].length ≤ 100 := fun i h => by
        have e : M[i].length = a.length := by subst hMe; exact vanM_row _ _ _ h
        omega
      have HM3 := Lib.hid (And.intro hM3 (And.intro hMe (And.intro hMl hMr)))
      clear hb3 hf2 hM3 hMe hMl hMr
      go_upto_region 9 with (go_at_call 30; refine (mInverse_p p v3 M _ HM3.out.1 (by rw [HM3.out.2.2.1]; omega) HM3.out.2.2.2).mono ?_; rintro _ w4 ⟨v4, fb, X, rfl, hX, hinv, hb4⟩)
      rw [HM3.out.2.1] at hinv
      obtain ⟨rfl, g1, g2, g3, g4⟩ := van_inv HD.out.1 (by omega) hinv
      rw [← HM3.out.2.1] at g1
      have HB4 := Lib.hid (Below.next (Nat.le_refl _) HB3.out hb4)
      have hf4 := Below.hold hb4 hf3
      have HX := Lib.hid (And.intro hX (And.intro (HM3.out.1.hold hb4) (And.intro g1 (And.intro g2 (And.intro (fun i h => Nat.le_trans (Nat.le_of_eq (g3 i h)) (show a.length ≤ 100 by omega)) g4)))))
      clear hb4 hf3 hX hinv g1 g2 g3 g4
      go_upto_region 10 with (go_at_call 51; refine (tForward_p p _ a _ (HM.out.hold HB4.out) (by omega)).mono ?_; rintro _ w5 ⟨v5, rfl, hl5, hb5⟩; rw [HD.out.2.2.2.1]; rw [HD.out.2.2.2.2.1] at hl5)
      have HB5 := Lib.hid (Below.next (Nat.le_refl _) HB4.out hb5)
      have hf5 := Below.hold hb5 hf4
      have H5 := Lib.hid (And.intro hl5 (And.intro (HX.out.1.hold hb5) (HX.out.2.1.hold hb5)))
      clear hb5 hf4 hl5
      go_upto_region 11 with (go_at_call 52; refine (tInverse_p p _ a _ (HM.out.hold HB5.out) (by omega)).mono ?_; rintro _ w6 ⟨v6, rfl, hl6, hb6⟩; rw [HD.out.1]; rw [HD.out.2.2.2.2.2.1] at hl6)
      have HB6 := Lib.hid (Below.next (Nat.le_refl _) HB5.out hb6)
      have hf6 := Below.hold hb6 hf5
      have H6 := Lib.hid (And.intro hl6 (And.intro (H5.out.1.hold hb6) (And.intro (H5.out.2.1.hold hb6) (H5.out.2.2.hold hb6))))
      clear hb6 hf5 hl6 H5
      obtain ⟨d, hd⟩ : ∃ d, d = detI p M := ⟨_, rfl⟩
      have hud : U d := by rw [hd]; infer_instance
      have hdn : (d != 0) = true := bne_iff_ne.2 (by rw [hd]; exact HX.out.2.2.1)
      have HE := Lib.hid hd
      clear hd
      go_wp2_with (first
        | (go_at_call 34; refine (mDeterminant_p p v3 M _ H6.out.2.2.2 (by rw [HM3.out.2.2.1]; omega) HM3.out.2.2.2).mono ?_; rintro _ w7 ⟨rfl, hb7⟩; rw [← HE.out]; have hf7 := Below.hold hb7 hf6)
        | (go_at_call 39; (with_reducible show Calls _ _ #[_, v3, _] _ _); refine (mApply_p p v3 _ M a _ (H6.out.2.2.2.hold hb7) (HM.out.hold (Below.next (Nat.le_refl _) HB6.out hb7)) (by rw [HM3.out.2.2.1]; omega) HM3.out.2.2.2 (by omega)).mono ?_; rintro _ w8 ⟨v8, rfl, hl8, hb8⟩; rw [HM3.out.2.1, HD.out.2.2.2.2.2.2] at hl8; have hb78 := Below.next (Nat.le_refl _) hb7 hb8; have hf8 := Below.hold hb8 hf7)
        | (go_at_call 25; (with_reducible show Calls _ _ #[v8, _] _ _); refine (rSame_b v8 v5 _ _ _ hl8 (H6.out.2.1.hold hb78) (by rw [evL_len]; omega) (by rw [evL_len]; omega)).mono ?_; rintro _ w9 ⟨rfl, hb9⟩; rw [decide_eq_true rfl]; have hb79 := Below.next (Nat.le_refl _) hb78 hb9; have hf9 := Below.hold hb9 hf8)
        | (go_at_call 39; (with_reducible show Calls _ _ #[_, v4, _] _ _); refine (mApply_p p v4 _ X a _ (H6.out.2.2.1.hold hb79) (HM.out.hold (Below.next (Nat.le_refl _) HB6.out hb79)) (by rw [HX.out.2.2.2.1]; omega) HX.out.2.2.2.2.1 (by omega)).mono ?_; rintro _ w10 ⟨v10, rfl, hl10, hb10⟩; rw [HX.out.2.2.2.2.2] at hl10; have hb710 := Below.next (Nat.le_refl _) hb79 hb10)
        | (go_at_call 25; (with_reducible show Calls _ _ #[v10, _] _ _); refine (rSame_b v10 v6 _ _ _ hl10 (H6.out.1.hold hb710) (by rw [intL_len]; omega) (by rw [intL_len]; omega)).mono ?_; rintro _ w11 ⟨rfl, hb11⟩; rw [decide_eq_true rfl])
        | fail)
      go_ret
      exact ⟨rfl, Below.next (Nat.le_refl _) HB6.out (Below.next (Nat.le_refl _) hb710 hb11)⟩
    · have hdn : (errD p 1 a.length != 0) = true := bne_iff_ne.2 hd
      have hbd : -9223372036854775808 ≤ errD p 1 a.length ∧ errD p 1 a.length ≤ 9223372036854775807 := by
        rcases errD_cases p 1 a.length with e | e | e <;> rw [e] <;> decide
      clear hd
      go_wp2_with (go_at_call 46; refine (tDomain_p p 1 a.length (by omega) (by omega) _).mono ?_; rintro _ w2 ⟨v2, rfl, hl2, hb2⟩)
      go_ret
      exact ⟨rfl, Below.next (Nat.le_refl _) HB1.out hb2⟩
  · have i1 : (16 : Int) < (a.length : Int) := by omega
    go_upto_region 3 with (go_at_call 45; refine (awake05_u _).mono ?_; rintro _ w1 ⟨rfl, hb1⟩)
    have HB1 := Lib.hid (Below.next (Nat.le_refl _) HBW.out hb1)
    clear hb1
    go_wp2_with (go_at_call 45; refine (awake05_u _).mono ?_; rintro _ w2 ⟨rfl, hb2⟩)
    go_ret
    exact ⟨rfl, Below.next (Nat.le_refl _) HB1.out hb2⟩
end Go.Proofs.Ytdcdaclkeocfpaa
