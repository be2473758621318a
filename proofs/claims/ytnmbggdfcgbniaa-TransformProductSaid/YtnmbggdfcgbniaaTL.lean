/- The walk of the statement that Inverse restores. -/
import Derived.Test.YtnmbggdfcgbniaaTK
import Derived.Test.YtnmbggdfcgbniaaTI
namespace Go.Proofs.Ytnmbggdfcgbniaa
open Go.RowKit Go.BigFrame
open Classical

theorem errE_zero {p s n : Int} {a : List Int} (h : errD p s n = 0) (hl : a.length ≤ 8192) : errE p a s n = 0 := by rw [errE, if_pos h, if_pos hl]
/-- The values, and back. -/
theorem there_back {p s : Int} {a : List Int} (h : errD p s a.length = 0) : ∃ Z : List Int, Z.length = a.length ∧ errE p a s a.length = 0 ∧ resE p a s a.length = Z ∧ errD p s Z.length = 0 ∧ resI p s Z = a.map (rd p) := by
  have h1 := errE_zero (a := a) h (by have := (errD_zero.1 h).1.2; omega)
  have hl := evL_len p a s a.length
  refine ⟨evL p a s a.length, hl, h1, by rw [resE, if_pos h1], by rw [hl]; exact h, ?_⟩
  rw [resI, if_pos (by rw [hl]; exact h)]
  exact intL_evL h
/-- The coefficients, and back. -/
theorem back_there {p s : Int} {a : List Int} (h : errD p s a.length = 0) : ∃ Z : List Int, Z.length = a.length ∧ errD p s a.length = 0 ∧ resI p s a = Z ∧ errE p Z s Z.length = 0 ∧ resE p Z s Z.length = a.map (rd p) := by
  have hl := intL_len p s a
  have h1 : errE p (intL p s a) s a.length = 0 := errE_zero h (by have := (errD_zero.1 h).1.2; omega)
  refine ⟨intL p s a, hl, h, by rw [resI, if_pos h], by rw [hl]; exact h1, ?_⟩
  rw [hl, resE, if_pos h1]
  exact evL_intL h

set_option maxRecDepth 100000 in
set_option maxHeartbeats 8000000 in
theorem law_tinverse (p s n : Int) [hU : U p] [hs : U s] (va : Value) (a : List Int) (w : World) (hla : Lst w va a) (hna : a.length ≤ 9223372036854775807) :
    Calls Try.prog 7 #[.agg #[.int .u64 p, va, .int .u64 s, .int .i64 n]] w fun e w' => e = .returned (.bool true) ∧ Below w.heap.size w w' := by
  obtain ⟨a0, c0, rfl⟩ := hla.shape
  have HL := Lib.hid hla
  clear hla
  have u1 : U 1 := inferInstance
  by_cases hsm : smallB a n = true
  · have hal : a.length ≤ 80 := by unfold smallB at hsm; simp at hsm; exact hsm.1
    have HS := Lib.hid hsm
    clear hsm
    by_cases hk : known p = true
    · by_cases hlen : LenOk p a.length
      · have hpl := known_lo hk
        have hph := known_hi hk
        have hp0 : ¬ p = 0 := by omega
        have hp1 : (p == 0) = false := by simpa using hp0
        have hs0 := hs.lo
        have hs1 := hs.hi
        have ht : s.tmod p = s % p := Int.tmod_eq_emod_of_nonneg hs0
        have hm0 := Int.emod_nonneg s hp0
        have hm1 := Int.emod_lt_of_pos s (show 0 < p by omega)
        have hwr : IntKind.u64.wrap (s % p) = s % p := by rw [IntKind.wrap_u64]; omega
        have h1 : errD p 1 a.length = 0 := errD_zero.2 ⟨hlen, one_mod hk⟩
        obtain ⟨X, hX⟩ := there_back h1
        obtain ⟨Y, hY⟩ := back_there h1
        obtain ⟨V, hV⟩ : ∃ V, V = a.map (rd p) := ⟨_, rfl⟩
        have hVl : V.length = a.length := by rw [hV, List.length_map]
        rw [← hV] at hX hY
        have hXl : X.length ≤ 80 := by have := hX.1; omega
        have hYl : Y.length ≤ 80 := by have := hY.1; omega
        have hVl2 : V.length ≤ 80 := by omega
        have HX := Lib.hid (And.intro hX (And.intro hY (And.intro hV (And.intro hk hlen))))
        have hS : s % p ≠ 0 → errD p s a.length = 0 := fun h => errD_zero.2 ⟨hlen, h⟩
        clear hX hY hV hVl hk hlen h1
        go_enter Try.func7, Try.ntmps7
        go_upto_region 1 with fail
        refine name_world ?_
        intro W hW
        have d0 : W.cell? ⟨w.heap.size, 0, none⟩ = some (.int .u64 p) := by rw [hW]; go_simp
        have d1 : W.cell? ⟨w.heap.size, 1, none⟩ = some (.slice a0 a.length c0) := by rw [hW]; go_simp
        have d2 : W.cell? ⟨w.heap.size, 2, none⟩ = some (.int .u64 s) := by rw [hW]; go_simp
        have d3 : W.cell? ⟨w.heap.size, 3, none⟩ = some (.int .i64 n) := by rw [hW]; go_simp
        have hb : Below w.heap.size w W := by rw [hW]; exact Below.made (Nat.le_refl _) (Below.refl _ _) _
        have HB0 := Lib.hid hb
        clear hW hb
        go_wp2_with fail
        refine (awake4_u _).mono ?_
        rintro _ w1 ⟨rfl, hb1⟩
        replace d0 := Below.hold hb1 d0
        replace d1 := Below.hold hb1 d1
        replace d2 := Below.hold hb1 d2
        replace d3 := Below.hold hb1 d3
        have HB1 := Lib.hid (Below.next (Nat.le_refl _) HB0.out hb1)
        clear hb1
        go_wp2_with fail
        refine (small4_u p s n _ a _ ⟨_, _, rfl⟩ hna).mono ?_
        rintro _ w2 ⟨rfl, hb2⟩
        rw [HS.out]
        replace d0 := Below.hold hb2 d0
        replace d1 := Below.hold hb2 d1
        replace d2 := Below.hold hb2 d2
        replace d3 := Below.hold hb2 d3
        have HB2 := Lib.hid (Below.next (Nat.le_refl _) HB1.out hb2)
        clear hb2
        go_wp2_with fail
        refine (rValid_any p _).mono ?_
        rintro _ w3 ⟨rfl, hb3⟩
        rw [HX.out.2.2.2.1]
        replace d0 := Below.hold hb3.b d0
        replace d1 := Below.hold hb3.b d1
        replace d2 := Below.hold hb3.b d2
        replace d3 := Below.hold hb3.b d3
        have HB3 := Lib.hid (Below.next (Nat.le_refl _) HB2.out hb3.b)
        clear hb3
        go_wp2_with fail
        refine (uLength_yes p a.length HX.out.2.2.2.2 _).mono ?_
        rintro _ w4 ⟨rfl, hb4⟩
        replace d0 := Below.hold hb4.b d0
        replace d1 := Below.hold hb4.b d1
        replace d2 := Below.hold hb4.b d2
        replace d3 := Below.hold hb4.b d3
        have HB4 := Lib.hid (Below.next (Nat.le_refl _) HB3.out hb4.b)
        clear hb4
        go_upto_region 4 with fail
        refine name_world ?_
        intro W2 hW2
        have hb5 : Below w4.heap.size w4 W2 := by rw [hW2]; exact (Below.refl _ _).alloc (Nat.le_refl _) _
        have df : W2.cell? ⟨w4.heap.size, 0, none⟩ = some (.int .u64 p) := by rw [hW2]; go_simp
        clear hW2
        replace d0 := Below.hold hb5 d0
        replace d1 := Below.hold hb5 d1
        replace d2 := Below.hold hb5 d2
        replace d3 := Below.hold hb5 d3
        have HB5 := Lib.hid (Below.next (Nat.le_refl _) HB4.out hb5)
        clear hb5
        go_wp2_with fail
        refine (tForward_p p _ a _ (HL.out.hold HB5.out) (by omega)).mono ?_
        rintro _ w6 ⟨v6, rfl, hl6, hb6⟩
        rw [HX.out.1.2.1]
        rw [HX.out.1.2.2.1] at hl6
        replace d0 := Below.hold hb6 d0
        replace d1 := Below.hold hb6 d1
        replace d2 := Below.hold hb6 d2
        replace d3 := Below.hold hb6 d3
        replace df := Below.hold hb6 df
        have HB6 := Lib.hid (Below.next (Nat.le_refl _) HB5.out hb6)
        have HL6 := Lib.hid hl6
        clear hb6 hl6
        go_wp2_with fail
        refine (tInverse_p p _ X _ HL6.out (by omega)).mono ?_
        rintro _ w7 ⟨v7, rfl, hl7, hb7⟩
        rw [HX.out.1.2.2.2.1]
        rw [HX.out.1.2.2.2.2] at hl7
        replace d0 := Below.hold hb7 d0
        replace d1 := Below.hold hb7 d1
        replace d2 := Below.hold hb7 d2
        replace d3 := Below.hold hb7 d3
        replace df := Below.hold hb7 df
        have HB7 := Lib.hid (Below.next (Nat.le_refl _) HB6.out hb7)
        have HL7 := Lib.hid hl7
        clear hb7 hl7 HL6
        go_wp2_with fail
        refine (tInverse_p p _ a _ (HL.out.hold HB7.out) (by omega)).mono ?_
        rintro _ w8 ⟨v8, rfl, hl8, hb8⟩
        rw [HX.out.2.1.2.1]
        rw [HX.out.2.1.2.2.1] at hl8
        replace d0 := Below.hold hb8 d0
        replace d1 := Below.hold hb8 d1
        replace d2 := Below.hold hb8 d2
        replace d3 := Below.hold hb8 d3
        replace df := Below.hold hb8 df
        have HB8 := Lib.hid (Below.next (Nat.le_refl _) HB7.out hb8)
        replace HL7 := Lib.hid (HL7.out.hold hb8)
        have HL8 := Lib.hid hl8
        clear hb8 hl8
        go_wp2_with fail
        refine (tForward_p p _ Y _ HL8.out (by omega)).mono ?_
        rintro _ w9 ⟨v9, rfl, hl9, hb9⟩
        rw [HX.out.2.1.2.2.2.1]
        rw [HX.out.2.1.2.2.2.2] at hl9
        replace d0 := Below.hold hb9 d0
        replace d1 := Below.hold hb9 d1
        replace d2 := Below.hold hb9 d2
        replace d3 := Below.hold hb9 d3
        replace df := Below.hold hb9 df
        have HB9 := Lib.hid (Below.next (Nat.le_refl _) HB8.out hb9)
        replace HL7 := Lib.hid (HL7.out.hold hb9)
        have HL9 := Lib.hid hl9
        clear hb9 hl9 HL8
        go_wp2_with fail
        refine (uReduced_u p HX.out.2.2.2.1 _ a _ (HL.out.hold HB9.out) (by omega)).mono ?_
        rintro _ w10 ⟨v10, rfl, hl10, hb10⟩
        rw [← HX.out.2.2.1] at hl10
        replace d0 := Below.hold hb10 d0
        replace d1 := Below.hold hb10 d1
        replace d2 := Below.hold hb10 d2
        replace d3 := Below.hold hb10 d3
        replace df := Below.hold hb10 df
        have HB10 := Lib.hid (Below.next (Nat.le_refl _) HB9.out hb10)
        replace HL7 := Lib.hid (HL7.out.hold hb10)
        replace HL9 := Lib.hid (HL9.out.hold hb10)
        have HL10 := Lib.hid hl10.lst
        clear hb10 hl10
        go_wp2_with fail
        refine (uSame_u _ _ V V _ HL7.out HL10.out (by omega) (by omega)).mono ?_
        rintro _ w11 ⟨rfl, hb11⟩
        rw [decide_eq_true (rfl : V = V)]
        replace d0 := Below.hold hb11 d0
        replace d1 := Below.hold hb11 d1
        replace d2 := Below.hold hb11 d2
        replace d3 := Below.hold hb11 d3
        replace df := Below.hold hb11 df
        have HB11 := Lib.hid (Below.next (Nat.le_refl _) HB10.out hb11)
        replace HL9 := Lib.hid (HL9.out.hold hb11)
        replace HL10 := Lib.hid (HL10.out.hold hb11)
        clear hb11 HL7
        go_wp2_with fail
        refine (uSame_u _ _ V V _ HL9.out HL10.out (by omega) (by omega)).mono ?_
        rintro _ w12 ⟨rfl, hb12⟩
        rw [decide_eq_true (rfl : V = V)]
        replace d0 := Below.hold hb12 d0
        replace d1 := Below.hold hb12 d1
        replace d2 := Below.hold hb12 d2
        replace d3 := Below.hold hb12 d3
        replace df := Below.hold hb12 df
        have HB12 := Lib.hid (Below.next (Nat.le_refl _) HB11.out hb12)
        replace HL10 := Lib.hid (HL10.out.hold hb12)
        clear hb12 HL9
        by_cases hz : s % p = 0
        · clear hS
          go_wp2
          go_ret
          exact ⟨rfl, HB12.out⟩
        · obtain ⟨Z, hZ⟩ := there_back (hS hz)
          rw [← HX.out.2.2.1] at hZ
          have hZl : Z.length ≤ 80 := by have := hZ.1; omega
          have HZ := Lib.hid hZ
          have hzb : (s % p == 0) = false := by simpa using hz
          clear hS hZ
          have i1 : (a.length : Int) ≤ 9223372036854775807 := by omega
          have i2 : -9223372036854775808 ≤ (a.length : Int) := by omega
          go_wp2_with fail
          refine (tEvaluate_p p s a.length _ a _ (HL.out.hold HB12.out) (by omega) i2 i1).mono ?_
          rintro _ w13 ⟨v13, rfl, hl13, hb13⟩
          rw [HZ.out.2.1]
          rw [HZ.out.2.2.1] at hl13
          replace d0 := Below.hold hb13 d0
          replace d1 := Below.hold hb13 d1
          replace d2 := Below.hold hb13 d2
          replace d3 := Below.hold hb13 d3
          replace df := Below.hold hb13 df
          have HB13 := Lib.hid (Below.next (Nat.le_refl _) HB12.out hb13)
          replace HL10 := Lib.hid (HL10.out.hold hb13)
          have HL13 := Lib.hid hl13
          clear hb13 hl13
          go_wp2_with fail
          refine (tInterpolate_p p s _ Z _ HL13.out (by omega)).mono ?_
          rintro _ w14 ⟨v14, rfl, hl14, hb14⟩
          rw [HZ.out.2.2.2.1]
          rw [HZ.out.2.2.2.2] at hl14
          have HB14 := Lib.hid (Below.next (Nat.le_refl _) HB13.out hb14)
          replace HL10 := Lib.hid (HL10.out.hold hb14)
          have HL14 := Lib.hid hl14
          clear hb14 hl14 HL13 d0 d1 d2 d3 df
          go_wp2_with fail
          refine (uSame_u _ _ V V _ HL14.out HL10.out (by omega) (by omega)).mono ?_
          rintro _ w15 ⟨rfl, hb15⟩
          rw [decide_eq_true (rfl : V = V)]
          have HB15 := Lib.hid (Below.next (Nat.le_refl _) HB14.out hb15)
          clear hb15 HL14 HL10
          go_wp2
          go_ret
          exact ⟨by simp, HB15.out⟩
      · have HK := Lib.hid (And.intro hk hlen)
        have i1 : (a.length : Int) ≤ 9223372036854775807 := by omega
        have i2 : -9223372036854775808 ≤ (a.length : Int) := by omega
        clear hk hlen
        go_enter Try.func7, Try.ntmps7
        go_upto_region 1 with fail
        refine name_world ?_
        intro W hW
        have d0 : W.cell? ⟨w.heap.size, 0, none⟩ = some (.int .u64 p) := by rw [hW]; go_simp
        have d1 : W.cell? ⟨w.heap.size, 1, none⟩ = some (.slice a0 a.length c0) := by rw [hW]; go_simp
        have d2 : W.cell? ⟨w.heap.size, 2, none⟩ = some (.int .u64 s) := by rw [hW]; go_simp
        have d3 : W.cell? ⟨w.heap.size, 3, none⟩ = some (.int .i64 n) := by rw [hW]; go_simp
        have hb : Below w.heap.size w W := by rw [hW]; exact Below.made (Nat.le_refl _) (Below.refl _ _) _
        have HB0 := Lib.hid hb
        clear hW hb
        go_wp2_with fail
        refine (awake4_u _).mono ?_
        rintro _ w1 ⟨rfl, hb1⟩
        replace d0 := Below.hold hb1 d0
        replace d1 := Below.hold hb1 d1
        replace d2 := Below.hold hb1 d2
        replace d3 := Below.hold hb1 d3
        have HB1 := Lib.hid (Below.next (Nat.le_refl _) HB0.out hb1)
        clear hb1
        go_wp2_with fail
        refine (small4_u p s n _ a _ ⟨_, _, rfl⟩ hna).mono ?_
        rintro _ w2 ⟨rfl, hb2⟩
        rw [HS.out]
        replace d0 := Below.hold hb2 d0
        replace d1 := Below.hold hb2 d1
        replace d2 := Below.hold hb2 d2
        replace d3 := Below.hold hb2 d3
        have HB2 := Lib.hid (Below.next (Nat.le_refl _) HB1.out hb2)
        clear hb2
        go_wp2_with fail
        refine (rValid_any p _).mono ?_
        rintro _ w3 ⟨rfl, hb3⟩
        rw [HK.out.1]
        replace d0 := Below.hold hb3.b d0
        replace d1 := Below.hold hb3.b d1
        replace d2 := Below.hold hb3.b d2
        replace d3 := Below.hold hb3.b d3
        have HB3 := Lib.hid (Below.next (Nat.le_refl _) HB2.out hb3.b)
        clear hb3
        go_wp2_with fail
        refine (uLength_no p a.length HK.out.2 i2 i1 _).mono ?_
        rintro _ w4 ⟨rfl, hb4⟩
        have HB4 := Lib.hid (Below.next (Nat.le_refl _) HB3.out hb4.b)
        clear hb4
        clear d0 d1 d2 d3
        go_wp2_with fail
        refine (awake4_u _).mono ?_
        rintro _ w5 ⟨rfl, hb5⟩
        have HB5 := Lib.hid (Below.next (Nat.le_refl _) HB4.out hb5)
        clear hb5
        go_wp2
        go_ret
        exact ⟨rfl, HB5.out⟩
    · have hk : known p = false := by simpa using hk
      have HK := Lib.hid hk
      clear hk
      go_enter Try.func7, Try.ntmps7
      go_upto_region 1 with fail
      refine name_world ?_
      intro W hW
      have d0 : W.cell? ⟨w.heap.size, 0, none⟩ = some (.int .u64 p) := by rw [hW]; go_simp
      have d1 : W.cell? ⟨w.heap.size, 1, none⟩ = some (.slice a0 a.length c0) := by rw [hW]; go_simp
      have d2 : W.cell? ⟨w.heap.size, 2, none⟩ = some (.int .u64 s) := by rw [hW]; go_simp
      have d3 : W.cell? ⟨w.heap.size, 3, none⟩ = some (.int .i64 n) := by rw [hW]; go_simp
      have hb : Below w.heap.size w W := by rw [hW]; exact Below.made (Nat.le_refl _) (Below.refl _ _) _
      have HB0 := Lib.hid hb
      clear hW hb
      go_wp2_with fail
      refine (awake4_u _).mono ?_
      rintro _ w1 ⟨rfl, hb1⟩
      replace d0 := Below.hold hb1 d0
      replace d1 := Below.hold hb1 d1
      replace d2 := Below.hold hb1 d2
      replace d3 := Below.hold hb1 d3
      have HB1 := Lib.hid (Below.next (Nat.le_refl _) HB0.out hb1)
      clear hb1
      go_wp2_with fail
      refine (small4_u p s n _ a _ ⟨_, _, rfl⟩ hna).mono ?_
      rintro _ w2 ⟨rfl, hb2⟩
      rw [HS.out]
      replace d0 := Below.hold hb2 d0
      replace d1 := Below.hold hb2 d1
      replace d2 := Below.hold hb2 d2
      replace d3 := Below.hold hb2 d3
      have HB2 := Lib.hid (Below.next (Nat.le_refl _) HB1.out hb2)
      clear hb2
      go_wp2_with fail
      refine (rValid_any p _).mono ?_
      rintro _ w3 ⟨rfl, hb3⟩
      rw [HK.out]
      replace d0 := Below.hold hb3.b d0
      replace d1 := Below.hold hb3.b d1
      replace d2 := Below.hold hb3.b d2
      replace d3 := Below.hold hb3.b d3
      have HB3 := Lib.hid (Below.next (Nat.le_refl _) HB2.out hb3.b)
      clear hb3
      clear d0 d1 d2 d3
      go_wp2_with fail
      refine (awake4_u _).mono ?_
      rintro _ w4 ⟨rfl, hb4⟩
      have HB4 := Lib.hid (Below.next (Nat.le_refl _) HB3.out hb4)
      clear hb4
      go_wp2
      go_ret
      exact ⟨rfl, HB4.out⟩
  · have hsm := small_awake hsm
    have HS := Lib.hid hsm
    clear hsm
    go_enter Try.func7, Try.ntmps7
    go_upto_region 1 with fail
    refine name_world ?_
    intro W hW
    have d0 : W.cell? ⟨w.heap.size, 0, none⟩ = some (.int .u64 p) := by rw [hW]; go_simp
    have d1 : W.cell? ⟨w.heap.size, 1, none⟩ = some (.slice a0 a.length c0) := by rw [hW]; go_simp
    have d2 : W.cell? ⟨w.heap.size, 2, none⟩ = some (.int .u64 s) := by rw [hW]; go_simp
    have d3 : W.cell? ⟨w.heap.size, 3, none⟩ = some (.int .i64 n) := by rw [hW]; go_simp
    have hb : Below w.heap.size w W := by rw [hW]; exact Below.made (Nat.le_refl _) (Below.refl _ _) _
    have HB0 := Lib.hid hb
    clear hW hb
    go_wp2_with fail
    refine (awake4_u _).mono ?_
    rintro _ w1 ⟨rfl, hb1⟩
    replace d0 := Below.hold hb1 d0
    replace d1 := Below.hold hb1 d1
    replace d2 := Below.hold hb1 d2
    replace d3 := Below.hold hb1 d3
    have HB1 := Lib.hid (Below.next (Nat.le_refl _) HB0.out hb1)
    clear hb1
    go_wp2_with fail
    refine (small4_u p s n _ a _ ⟨_, _, rfl⟩ hna).mono ?_
    rintro _ w2 ⟨rfl, hb2⟩
    rw [HS.out]
    have HB2 := Lib.hid (Below.next (Nat.le_refl _) HB1.out hb2)
    clear hb2 d0 d1 d2 d3
    go_wp2_with fail
    refine (awake4_u _).mono ?_
    rintro _ w3 ⟨rfl, hb3⟩
    have HB3 := Lib.hid (Below.next (Nat.le_refl _) HB2.out hb3)
    clear hb3
    go_wp2
    go_ret
    exact ⟨rfl, HB3.out⟩
end Go.Proofs.Ytnmbggdfcgbniaa
