/- The walk of the statement that the values of a product are the products of the values. -/
import Derived.Test.YtnmbggdfcgbniaaTM
namespace Go.Proofs.Ytnmbggdfcgbniaa
open Go.RowKit Go.BigFrame
open Classical

/-- The values of the product are the products of the values. -/
theorem mul_values {p : Int} (s n : Int) {a b : List Int} (ha : a.length ≤ 1000) (hb : b.length ≤ 1000) (hM : errM p a b = 0) :
    ∃ (N : Nat) (er : Int) (X Y Z : List Int), N ≤ 4096 ∧ (X.length = N ∧ errE p a s n = er ∧ resE p a s n = X) ∧ (Y.length = N ∧ errE p b s n = er ∧ resE p b s n = Y) ∧
      (Z.length = N ∧ errE p (resM p a b) s n = er ∧ resE p (resM p a b) s n = Z) ∧ ∀ k (g1 : k < X.length) (g2 : k < Y.length) (g3 : k < Z.length), ml p X[k] Y[k] = Z[k] := by
  have hl := resM_len p a b
  by_cases h : errD p s n = 0
  · have hk := (errD_zero.1 h).1.1.1
    have hn := (errD_zero.1 h).1.2
    have e1 := errE_zero (a := a) h (by omega)
    have e2 := errE_zero (a := b) h (by omega)
    have e3 := errE_zero (a := resM p a b) h (by omega)
    have el : ∀ c : List Int, (evL p c s n).length = n.toNat := fun c => by simp [evL]
    refine ⟨n.toNat, 0, evL p a s n, evL p b s n, evL p (resM p a b) s n, by omega, ⟨el _, e1, by rw [resE, if_pos e1]⟩, ⟨el _, e2, by rw [resE, if_pos e2]⟩, ⟨el _, e3, by rw [resE, if_pos e3]⟩, fun k g1 g2 g3 => ?_⟩
    simp only [evL, List.getElem_map, List.getElem_range]
    rw [ival_mul hk, ph_ival hk, ph_ival hk, resM_ev hM]
  · have ee : ∀ c : List Int, errE p c s n = errD p s n := fun c => by rw [errE, if_neg h]
    have er : ∀ c : List Int, resE p c s n = [] := fun c => by rw [resE, if_neg (by rw [ee]; exact h)]
    exact ⟨0, errD p s n, [], [], [], by omega, ⟨rfl, ee _, er _⟩, ⟨rfl, ee _, er _⟩, ⟨rfl, ee _, er _⟩, fun k g1 => by simp at g1⟩

set_option maxRecDepth 100000 in
set_option maxHeartbeats 8000000 in
theorem law_tproduct (p s n : Int) [hU : U p] [hs : U s] (va vb : Value) (a b : List Int) (w : World) (hla : Lst w va a) (hlb : Lst w vb b) (hna : a.length ≤ 9223372036854775807) (hnb : b.length ≤ 9223372036854775807) (hn0 : -9223372036854775808 ≤ n) (hn1 : n ≤ 9223372036854775807) :
    Calls Try.prog 9 #[.agg #[.int .u64 p, va, .int .u64 s, .int .i64 n], vb] w fun e w' => e = .returned (.bool true) ∧ Below w.heap.size w w' := by
  obtain ⟨a0, c0, rfl⟩ := hla.shape
  obtain ⟨a1, c1, rfl⟩ := hlb.shape
  have HL := Lib.hid (And.intro hla hlb)
  clear hla hlb
  by_cases hsm : smallB a n = true
  · have HS := Lib.hid hsm
    clear hsm
    by_cases h30 : a.length ≤ 30
    · have j1 : (a.length : Int) ≤ 30 := by omega
      by_cases h31 : b.length ≤ 30
      · have j2 : (b.length : Int) ≤ 30 := by omega
        obtain ⟨M, hMe⟩ : ∃ M, M = resM p a b := ⟨_, rfl⟩
        obtain ⟨em, hem⟩ : ∃ em, em = errM p a b := ⟨_, rfl⟩
        have hMl : M.length ≤ 60 := by have := resM_len p a b; rw [hMe]; omega
        have HM := Lib.hid (And.intro hMe hem)
        clear hMe hem
        go_enter Try.func9, Try.ntmps9
        go_upto_region 1 with fail
        refine name_world ?_
        intro W hW
        have d0 : W.cell? ⟨w.heap.size, 0, none⟩ = some (.int .u64 p) := by rw [hW]; go_simp
        have d1 : W.cell? ⟨w.heap.size, 1, none⟩ = some (.slice a0 a.length c0) := by rw [hW]; go_simp
        have d2 : W.cell? ⟨w.heap.size, 2, none⟩ = some (.int .u64 s) := by rw [hW]; go_simp
        have d3 : W.cell? ⟨w.heap.size, 3, none⟩ = some (.int .i64 n) := by rw [hW]; go_simp
        have hb : Below w.heap.size w W := by rw [hW]; exact Below.made (Nat.le_refl _) (Below.refl _ _) _
        have HB0 := Lib.hid hb
        clear hW hb
        go_wp2_with fail
        refine (awake4_u _).mono ?_
        rintro _ w1 ⟨rfl, hb1⟩
        replace d0 := Below.hold hb1 d0
        replace d1 := Below.hold hb1 d1
        replace d2 := Below.hold hb1 d2
        replace d3 := Below.hold hb1 d3
        have HB1 := Lib.hid (Below.next (Nat.le_refl _) HB0.out hb1)
        clear hb1
        go_wp2_with fail
        refine (small4_u p s n _ a _ ⟨_, _, rfl⟩ hna).mono ?_
        rintro _ w2 ⟨rfl, hb2⟩
        rw [HS.out]
        replace d0 := Below.hold hb2 d0
        replace d1 := Below.hold hb2 d1
        replace d2 := Below.hold hb2 d2
        replace d3 := Below.hold hb2 d3
        have HB2 := Lib.hid (Below.next (Nat.le_refl _) HB1.out hb2)
        clear hb2
        go_upto_region 4 with fail
        refine name_world ?_
        intro W2 hW2
        have hb5 : Below w2.heap.size w2 W2 := by rw [hW2]; exact (Below.refl _ _).alloc (Nat.le_refl _) _
        have df : W2.cell? ⟨w2.heap.size, 0, none⟩ = some (.int .u64 p) := by rw [hW2]; go_simp
        clear hW2
        replace d0 := Below.hold hb5 d0
        replace d1 := Below.hold hb5 d1
        replace d2 := Below.hold hb5 d2
        replace d3 := Below.hold hb5 d3
        have HB5 := Lib.hid (Below.next (Nat.le_refl _) HB2.out hb5)
        clear hb5
        go_wp2_with fail
        refine (tMultiply_p p _ _ a b _ (HL.out.1.hold HB5.out) (HL.out.2.hold HB5.out) (by omega) (by omega)).mono ?_
        rintro _ w6 ⟨v6, rfl, hl6, hb6⟩
        rw [← HM.out.2]
        rw [← HM.out.1] at hl6
        replace d0 := Below.hold hb6 d0
        replace d1 := Below.hold hb6 d1
        replace d2 := Below.hold hb6 d2
        replace d3 := Below.hold hb6 d3
        replace df := Below.hold hb6 df
        have HB6 := Lib.hid (Below.next (Nat.le_refl _) HB5.out hb6)
        have HL6 := Lib.hid hl6
        clear hb6 hl6
        by_cases hz : em = 0
        · obtain ⟨N, er, X, Y, Z, hN, hX, hY, hZ, hmul⟩ := mul_values (p := p) s n (a := a) (b := b) (by omega) (by omega) (HM.out.2.symm.trans hz)
          rw [← HM.out.1] at hZ
          have HX := Lib.hid (And.intro hX (And.intro hY (And.intro hZ hmul)))
          clear hX hY hZ hmul
          subst hz
          go_wp2_with fail
          refine (tEvaluate_p p s n _ a _ (HL.out.1.hold HB6.out) (by omega) hn0 hn1).mono ?_
          rintro _ w7 ⟨v7, rfl, hl7, hb7⟩
          rw [HX.out.1.2.1]
          rw [HX.out.1.2.2] at hl7
          obtain ⟨a7, c7, rfl⟩ : ∃ a7 c7, v7 = .slice a7 N c7 := by obtain ⟨a7, c7, e⟩ := hl7.shape; exact ⟨a7, c7, by rw [e, HX.out.1.1]⟩
          replace d0 := Below.hold hb7 d0
          replace d1 := Below.hold hb7 d1
          replace d2 := Below.hold hb7 d2
          replace d3 := Below.hold hb7 d3
          replace df := Below.hold hb7 df
          have HB7 := Lib.hid (Below.next (Nat.le_refl _) HB6.out hb7)
          replace HL6 := Lib.hid (HL6.out.hold hb7)
          have HL7 := Lib.hid hl7
          clear hb7 hl7
          go_wp2_with fail
          refine (tEvaluate_p p s n _ b _ (HL.out.2.hold HB7.out) (by omega) hn0 hn1).mono ?_
          rintro _ w8 ⟨v8, rfl, hl8, hb8⟩
          rw [HX.out.2.1.2.1]
          rw [HX.out.2.1.2.2] at hl8
          obtain ⟨a8, c8, rfl⟩ : ∃ a8 c8, v8 = .slice a8 N c8 := by obtain ⟨a8, c8, e⟩ := hl8.shape; exact ⟨a8, c8, by rw [e, HX.out.2.1.1]⟩
          replace d0 := Below.hold hb8 d0
          replace d1 := Below.hold hb8 d1
          replace d2 := Below.hold hb8 d2
          replace d3 := Below.hold hb8 d3
          replace df := Below.hold hb8 df
          have HB8 := Lib.hid (Below.next (Nat.le_refl _) HB7.out hb8)
          replace HL6 := Lib.hid (HL6.out.hold hb8)
          replace HL7 := Lib.hid (HL7.out.hold hb8)
          have HL8 := Lib.hid hl8
          clear hb8 hl8
          go_wp2_with fail
          refine (tEvaluate_p p s n _ M _ HL6.out (by omega) hn0 hn1).mono ?_
          rintro _ w9 ⟨v9, rfl, hl9, hb9⟩
          rw [HX.out.2.2.1.2.1]
          rw [HX.out.2.2.1.2.2] at hl9
          obtain ⟨a9, c9, rfl⟩ : ∃ a9 c9, v9 = .slice a9 N c9 := by obtain ⟨a9, c9, e⟩ := hl9.shape; exact ⟨a9, c9, by rw [e, HX.out.2.2.1.1]⟩
          replace d0 := Below.hold hb9 d0
          have HB9 := Lib.hid (Below.next (Nat.le_refl _) HB8.out hb9)
          replace HL7 := Lib.hid (HL7.out.hold hb9)
          replace HL8 := Lib.hid (HL8.out.hold hb9)
          have HL9 := Lib.hid hl9
          clear hb9 hl9 d1 d2 d3 df HL6
          go_wp2
          go_loopw [102] (fun iv wr => ∃ k : Nat, iv = .int .i64 k ∧ k ≤ N ∧ Below w9.heap.size w9 wr) (fun iv _ => N - (intOf iv).toNat)
          case atStart => exact ⟨0, rfl, Nat.zero_le _, Below.refl _ _⟩
          case round =>
            obtain ⟨k, rfl, hk, hb⟩ := hrel
            have i0 : (0 : Int) ≤ (k : Int) := by omega
            by_cases hlt : k < N
            · have q1 : k < X.length := by have := HX.out.1.1; omega
              have q2 : k < Y.length := by have := HX.out.2.1.1; omega
              have q3 : k < Z.length := by have := HX.out.2.2.1.1; omega
              obtain ⟨bx, ox, cx, e1, g1⟩ := (HL7.out.hold hb).cells k q1
              obtain ⟨by_, oy, cy, e2, g2⟩ := (HL8.out.hold hb).cells k q2
              obtain ⟨bz, oz, cz, e3, g3⟩ := (HL9.out.hold hb).cells k q3
              obtain ⟨rfl, -, rfl⟩ := Value.slice.inj e1
              obtain ⟨rfl, -, rfl⟩ := Value.slice.inj e2
              obtain ⟨rfl, -, rfl⟩ := Value.slice.inj e3
              have hu1 := HL7.out.us X[k] (List.getElem_mem q1)
              have hu2 := HL8.out.us Y[k] (List.getElem_mem q2)
              have hs := HX.out.2.2.2 k q1 q2 q3
              obtain ⟨x, hx⟩ : ∃ x, x = X[k] := ⟨_, rfl⟩
              obtain ⟨y, hy⟩ : ∃ y, y = Y[k] := ⟨_, rfl⟩
              obtain ⟨z, hz⟩ : ∃ z, z = Z[k] := ⟨_, rfl⟩
              rw [← hx] at g1 hu1 hs
              rw [← hy] at g2 hu2 hs
              rw [← hz] at g3 hs
              have i3 : (k : Int) < (N : Int) := by omega
              have g4 := Below.hold hb d0
              have HV := Lib.hid (And.intro hs hb)
              clear hs hb hx hy hz e1 e2 e3 q1 q2 q3
              go_wp2_with fail
              have k0 := fun q : NwAt wr => q.nw.hold g1
              have k1 := fun q : NwAt wr => q.nw.hold g2
              have k2 := fun q : NwAt wr => q.nw.hold g3
              have k3 := fun q : NwAt wr => q.nw.hold g4
              refine from_here ?_
              intro q
              refine wp_region_nw (by kernel_rfl) (by kernel_rfl) ?_
              repeat (go_big_quiet_step ((first | (go_at_call 27; exact nwAt_of (rMul_u _ _ _ _)))))
              refine wpQuiet_nil ?_
              clear q
              rintro _ ⟨q, rfl⟩
              clear k0 k1 k2 k3
              rw [HV.out.1]
              go_wp2
              exact ⟨⟨k + 1, by go_num, by omega, Below.next (Nat.le_refl _) HV.out.2 q.nw.b⟩, by simp [intOf]; omega⟩
            · obtain rfl : k = N := by omega
              have HW := Lib.hid hb
              clear hb
              go_wp2
              go_ret
              exact ⟨rfl, Below.next (Nat.le_refl _) HB9.out HW.out⟩
        · have hzb : (em != 0) = true := by simpa using hz
          clear d0 d1 d2 d3 df
          go_wp2
          go_ret
          exact ⟨rfl, HB6.out⟩
      · have j2 : ¬ (b.length : Int) ≤ 30 := by omega
        go_enter Try.func9, Try.ntmps9
        go_upto_region 1 with fail
        refine name_world ?_
        intro W hW
        have d0 : W.cell? ⟨w.heap.size, 0, none⟩ = some (.int .u64 p) := by rw [hW]; go_simp
        have d1 : W.cell? ⟨w.heap.size, 1, none⟩ = some (.slice a0 a.length c0) := by rw [hW]; go_simp
        have d2 : W.cell? ⟨w.heap.size, 2, none⟩ = some (.int .u64 s) := by rw [hW]; go_simp
        have d3 : W.cell? ⟨w.heap.size, 3, none⟩ = some (.int .i64 n) := by rw [hW]; go_simp
        have hb : Below w.heap.size w W := by rw [hW]; exact Below.made (Nat.le_refl _) (Below.refl _ _) _
        have HB0 := Lib.hid hb
        clear hW hb
        go_wp2_with fail
        refine (awake4_u _).mono ?_
        rintro _ w1 ⟨rfl, hb1⟩
        replace d0 := Below.hold hb1 d0
        replace d1 := Below.hold hb1 d1
        replace d2 := Below.hold hb1 d2
        replace d3 := Below.hold hb1 d3
        have HB1 := Lib.hid (Below.next (Nat.le_refl _) HB0.out hb1)
        clear hb1
        go_wp2_with fail
        refine (small4_u p s n _ a _ ⟨_, _, rfl⟩ hna).mono ?_
        rintro _ w2 ⟨rfl, hb2⟩
        rw [HS.out]
        replace d0 := Below.hold hb2 d0
        replace d1 := Below.hold hb2 d1
        replace d2 := Below.hold hb2 d2
        replace d3 := Below.hold hb2 d3
        have HB2 := Lib.hid (Below.next (Nat.le_refl _) HB1.out hb2)
        clear hb2
        go_wp2_with fail
        refine (awake4_u _).mono ?_
        rintro _ w3 ⟨rfl, hb3⟩
        have HB3 := Lib.hid (Below.next (Nat.le_refl _) HB2.out hb3)
        clear hb3
        go_wp2
        go_ret
        exact ⟨rfl, HB3.out⟩
    · have j1 : ¬ (a.length : Int) ≤ 30 := by omega
      go_enter Try.func9, Try.ntmps9
      go_upto_region 1 with fail
      refine name_world ?_
      intro W hW
      have d0 : W.cell? ⟨w.heap.size, 0, none⟩ = some (.int .u64 p) := by rw [hW]; go_simp
      have d1 : W.cell? ⟨w.heap.size, 1, none⟩ = some (.slice a0 a.length c0) := by rw [hW]; go_simp
      have d2 : W.cell? ⟨w.heap.size, 2, none⟩ = some (.int .u64 s) := by rw [hW]; go_simp
      have d3 : W.cell? ⟨w.heap.size, 3, none⟩ = some (.int .i64 n) := by rw [hW]; go_simp
      have hb : Below w.heap.size w W := by rw [hW]; exact Below.made (Nat.le_refl _) (Below.refl _ _) _
      have HB0 := Lib.hid hb
      clear hW hb
      go_wp2_with fail
      refine (awake4_u _).mono ?_
      rintro _ w1 ⟨rfl, hb1⟩
      replace d0 := Below.hold hb1 d0
      replace d1 := Below.hold hb1 d1
      replace d2 := Below.hold hb1 d2
      replace d3 := Below.hold hb1 d3
      have HB1 := Lib.hid (Below.next (Nat.le_refl _) HB0.out hb1)
      clear hb1
      go_wp2_with fail
      refine (small4_u p s n _ a _ ⟨_, _, rfl⟩ hna).mono ?_
      rintro _ w2 ⟨rfl, hb2⟩
      rw [HS.out]
      replace d0 := Below.hold hb2 d0
      replace d1 := Below.hold hb2 d1
      replace d2 := Below.hold hb2 d2
      replace d3 := Below.hold hb2 d3
      have HB2 := Lib.hid (Below.next (Nat.le_refl _) HB1.out hb2)
      clear hb2
      go_wp2_with fail
      refine (awake4_u _).mono ?_
      rintro _ w3 ⟨rfl, hb3⟩
      have HB3 := Lib.hid (Below.next (Nat.le_refl _) HB2.out hb3)
      clear hb3
      go_wp2
      go_ret
      exact ⟨rfl, HB3.out⟩
  · have hsm := small_awake hsm
    have HS := Lib.hid hsm
    clear hsm
    go_enter Try.func9, Try.ntmps9
    go_upto_region 1 with fail
    refine name_world ?_
    intro W hW
    have d0 : W.cell? ⟨w.heap.size, 0, none⟩ = some (.int .u64 p) := by rw [hW]; go_simp
    have d1 : W.cell? ⟨w.heap.size, 1, none⟩ = some (.slice a0 a.length c0) := by rw [hW]; go_simp
    have d2 : W.cell? ⟨w.heap.size, 2, none⟩ = some (.int .u64 s) := by rw [hW]; go_simp
    have d3 : W.cell? ⟨w.heap.size, 3, none⟩ = some (.int .i64 n) := by rw [hW]; go_simp
    have hb : Below w.heap.size w W := by rw [hW]; exact Below.made (Nat.le_refl _) (Below.refl _ _) _
    have HB0 := Lib.hid hb
    clear hW hb
    go_wp2_with fail
    refine (awake4_u _).mono ?_
    rintro _ w1 ⟨rfl, hb1⟩
    replace d0 := Below.hold hb1 d0
    replace d1 := Below.hold hb1 d1
    replace d2 := Below.hold hb1 d2
    replace d3 := Below.hold hb1 d3
    have HB1 := Lib.hid (Below.next (Nat.le_refl _) HB0.out hb1)
    clear hb1
    go_wp2_with fail
    refine (small4_u p s n _ a _ ⟨_, _, rfl⟩ hna).mono ?_
    rintro _ w2 ⟨rfl, hb2⟩
    rw [HS.out]
    have HB2 := Lib.hid (Below.next (Nat.le_refl _) HB1.out hb2)
    clear hb2 d0 d1 d2 d3
    go_wp2_with fail
    refine (awake4_u _).mono ?_
    rintro _ w3 ⟨rfl, hb3⟩
    have HB3 := Lib.hid (Below.next (Nat.le_refl _) HB2.out hb3)
    clear hb3
    go_wp2
    go_ret
    exact ⟨rfl, HB3.out⟩
end Go.Proofs.Ytnmbggdfcgbniaa
