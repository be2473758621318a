/- The walk of the statement on the determinant of a product. -/
import Derived.Test.YtdcdaclkeocfpaaKQ
namespace Go.Proofs.Ytdcdaclkeocfpaa
open Go.RowKit Go.BigFrame
open Classical

theorem mulM_dim100 (p : Int) (A B : List (List Int)) (ha : A.length ≤ 100) : (mulM p A B).length ≤ 100 ∧ ∀ i (h : i < (mulM p A B).length), (mulM p A B)[i].length ≤ 100 := by
  by_cases hb : OkM p A ∧ OkM p B ∧ B.length = cols A
  · have e := mulM_rows hb.1 hb.2.1 hb.2.2
    have hc := hb.2.1.2.cols
    refine ⟨by rw [e]; simp; omega, fun i h => ?_⟩
    simp only [e, List.getElem_map, mrow_len]; omega
  · have e : mulM p A B = [] := by unfold mulM; rw [if_neg hb]
    rw [e]; exact ⟨by simp, fun i h => by simp at h⟩

set_option maxRecDepth 100000 in
set_option maxHeartbeats 16000000 in
theorem law_jdetproduct (n : Int) (hn0 : 0 ≤ n ∧ n ≤ 255) (va vb : Value) (A B : List (List Int)) (w : World) (hA : MatR w va A) (hB : MatR w vb B) (hn : A.length ≤ 9223372036854775807) (hr : ∀ i (h : i < A.length), A[i].length ≤ 9223372036854775807) (hm : B.length ≤ 9223372036854775807) (hs : ∀ i (h : i < B.length), B[i].length ≤ 9223372036854775807) :
    Calls Try.prog 8 #[.int .u8 n, va, vb] w fun e w' => e = .returned (.bool true) ∧ Below w.heap.size w w' := by
  obtain ⟨a0, c0, rfl⟩ := hA.shape
  obtain ⟨a1, c1, rfl⟩ := hB.shape
  have HM := Lib.hid (And.intro hA (And.intro hr (And.intro hB hs)))
  clear hA hr hB hs
  have hk := prime_known n
  obtain ⟨p, hp⟩ : ∃ p, p = prime n := ⟨_, rfl⟩
  rw [← hp] at hk
  have HP := Lib.hid hp
  have HKn := Lib.hid hk
  have hU : U p := known_u hk
  clear hp hk
  by_cases hsa : Sml A 12
  · obtain ⟨b1, b2⟩ := hsa.rows (m := 100) (by decide)
    obtain ⟨b3, b4⟩ := hsa.rows (m := 100000) (by decide)
    by_cases hsb : Sml B 12
    · obtain ⟨d1, d2⟩ := hsb.rows (m := 100) (by decide)
      obtain ⟨d3, d4⟩ := hsb.rows (m := 100000) (by decide)
      have HS := Lib.hid (And.intro (decide_eq_true hsa) (decide_eq_true hsb))
      have HS4 := Lib.hid (And.intro b4 d4)
      have HS2 := Lib.hid (And.intro b2 d2)
      clear hsa hsb b2 b4 d2 d4
      by_cases hqa : Vld A ∧ A.length = cols A
      · have HQA := Lib.hid (decide_eq_true hqa)
        by_cases hqb : Vld B ∧ B.length = cols B
        · have HQB := Lib.hid (decide_eq_true hqb)
          by_cases hab : A.length = B.length
          · have hne : ((A.length : Int) != (B.length : Int)) = false := by rw [hab]; simp
            have hDP := detI_mul (p := p) ⟨HKn.out, hqa.1⟩ ⟨HKn.out, hqb.1⟩ hqa.2 hqb.2 hab
            obtain ⟨dA, hdA⟩ : ∃ d, d = detI p A := ⟨_, rfl⟩
            obtain ⟨dB, hdB⟩ : ∃ d, d = detI p B := ⟨_, rfl⟩
            have uA : U dA := by rw [hdA]; infer_instance
            have uB : U dB := by rw [hdB]; infer_instance
            rw [← hdA, ← hdB] at hDP
            have HDP := Lib.hid (And.intro hDP (And.intro hdA hdB))
            clear hDP hdA hdB hqa hqb hab
            go_enter Try.func8, Try.ntmps8
            go_upto_region 5 with (first
              | (go_at_call 35; refine (rPrime_any n hn0.1 hn0.2 _).mono ?_; rintro _ w0 ⟨rfl, hb0⟩; rw [← HP.out]; have hA0 := HM.out.1.hold hb0.b; have hB0 := HM.out.2.2.1.hold hb0.b; have HM0 := Lib.hid (And.intro hA0 (And.intro hB0 hb0.b)); clear hA0 hB0 hb0)
              | (go_at_call 16; refine (awake5_u _).mono ?_; rintro _ w1 ⟨rfl, hb1⟩)
              | (go_at_call 17; (with_reducible show Calls _ _ #[.slice a0 _ _] _ _); refine (small5_u _ A _ (HM0.out.1.hold hb1) hn HM.out.2.1).mono ?_; rintro e w2 ⟨rfl, hwA⟩; obtain rfl : w1 = w2 := hwA.symm; rw [HS.out.1])
              | (go_at_call 17; (with_reducible show Calls _ _ #[.slice a1 _ _] _ _); refine (small5_u _ B _ (HM0.out.2.1.hold hb1) hm HM.out.2.2.2).mono ?_; rintro e w2 ⟨rfl, hwB⟩; obtain rfl : w1 = w2 := hwB.symm; rw [HS.out.2])
              | (go_at_call 36; (with_reducible show Calls _ _ #[.slice a0 _ _] _ _); refine (kSquare_u _ A _ (HM0.out.1.hold hb1) b3 HS4.out.1).mono ?_; rintro e wqA ⟨rfl, hbqA⟩; rw [HQA.out])
              | (go_at_call 36; (with_reducible show Calls _ _ #[.slice a1 _ _] _ _); refine (kSquare_u _ B _ (HM0.out.2.1.hold (Below.next (Nat.le_refl _) hb1 hbqA.b)) d3 HS4.out.2).mono ?_; rintro e wqB ⟨rfl, hbqB⟩; rw [HQB.out])
              | fail)
            have HB := Lib.hid (Below.next (Nat.le_refl _) HM0.out.2.2 (Below.next (Nat.le_refl _) (Below.next (Nat.le_refl _) hb1 hbqA.b) hbqB.b))
            refine name_world ?_
            intro W hW
            have hf : W.cell? ⟨wqB.heap.size, 0, none⟩ = some (.int .u64 p) := by rw [hW]; go_simp
            have hbW : Below w.heap.size w W := by rw [hW]; exact Below.made (Nat.le_refl _) HB.out _
            have HBW := Lib.hid hbW
            clear hW hbW HB hb1 hbqA hbqB
            have G0 := fun (w' : World) (h : Below W.heap.size W w') => Below.hold h hf
            have F := Below.refl W.heap.size W
            go_region_held3 (fun w' => Below W.heap.size W w')
              (first | assumption | exact Below.drew (by assumption))
              (first
                | (go_at_call 19; (with_reducible show Calls _ _ #[.slice a0 _ _] _ _); refine (cp5_u _ A _ (HM.out.1.hold (Below.next (Nat.le_refl _) HBW.out (by (repeat (first | assumption | refine Below.drew ?_ | refine Below.next (Nat.le_refl _) ?_ (by assumption)))))) b3 HS4.out.1).mono ?_; rintro _ w3 ⟨v3, rs3, rfl, hown3, hb3⟩; have hs3 : Below W.heap.size W w3 := Below.next (Nat.le_refl _) (by (repeat (first | assumption | refine Below.drew ?_ | refine Below.next (Nat.le_refl _) ?_ (by assumption)))) hb3)
                | (go_at_call 19; (with_reducible show Calls _ _ #[.slice a1 _ _] _ _); refine (cp5_u _ B _ (HM.out.2.2.1.hold (Below.next (Nat.le_refl _) HBW.out (by (repeat (first | assumption | refine Below.drew ?_ | refine Below.next (Nat.le_refl _) ?_ (by assumption)))))) d3 HS4.out.2).mono ?_; rintro _ w4 ⟨v4, rs4, rfl, hown4, hb4⟩; have hs4 : Below W.heap.size W w4 := Below.next (Nat.le_refl _) (by (repeat (first | assumption | refine Below.drew ?_ | refine Below.next (Nat.le_refl _) ?_ (by assumption)))) hb4)
                | (go_at_call 37; refine (mMultiply_p p v3 v4 A B _ (hown3.matR.hold hb4) hown4.matR b1 d1 HS2.out.1 HS2.out.2).mono ?_; rintro _ w5 ⟨v5, rfl, hX5, hb5⟩; have hs5 : Below W.heap.size W w5 := Below.next (Nat.le_refl _) (by (repeat (first | assumption | refine Below.drew ?_ | refine Below.next (Nat.le_refl _) ?_ (by assumption)))) hb5)
                | (go_at_call 34; (with_reducible show Calls _ _ #[_, v5] _ _); refine (mDeterminant_p p v5 (mulM p A B) _ hX5 (mulM_dim100 p A B b1).1 (mulM_dim100 p A B b1).2).mono ?_; rintro _ w6 ⟨rfl, hb6⟩; rw [HDP.out.1]; have hs6 : Below W.heap.size W w6 := Below.next (Nat.le_refl _) (by (repeat (first | assumption | refine Below.drew ?_ | refine Below.next (Nat.le_refl _) ?_ (by assumption)))) hb6)
                | (go_at_call 34; (with_reducible show Calls _ _ #[_, v3] _ _); refine (mDeterminant_p p v3 A _ hown3.matR b1 HS2.out.1).mono ?_; rintro _ w7 ⟨rfl, hb7⟩; rw [← HDP.out.2.1]; have hs7 : Below W.heap.size W w7 := Below.next (Nat.le_refl _) (by (repeat (first | assumption | refine Below.drew ?_ | refine Below.next (Nat.le_refl _) ?_ (by assumption)))) hb7)
                | (go_at_call 34; (with_reducible show Calls _ _ #[_, v4] _ _); refine (mDeterminant_p p v4 B _ hown4.matR d1 HS2.out.2).mono ?_; rintro _ w8 ⟨rfl, hb8⟩; rw [← HDP.out.2.2]; have hs8 : Below W.heap.size W w8 := Below.next (Nat.le_refl _) (by (repeat (first | assumption | refine Below.drew ?_ | refine Below.next (Nat.le_refl _) ?_ (by assumption)))) hb8)
                | (go_at_call 38; refine (fMul_u p dA dB _).mono ?_; rintro _ w9 ⟨rfl, hb9⟩; have hs9 : Below W.heap.size W w9 := Below.next (Nat.le_refl _) (by (repeat (first | assumption | refine Below.drew ?_ | refine Below.next (Nat.le_refl _) ?_ (by assumption)))) hb9.b)
                | fail)
            all_goals
              have HX := Lib.hid (Below.next (Nat.le_refl _) HBW.out hs9)
              go_wp2
              go_ret
              exact ⟨by simp, HX.out⟩
          · have hne : ((A.length : Int) != (B.length : Int)) = true := bne_iff_ne.2 (show (A.length : Int) ≠ (B.length : Int) by omega)
            clear hqa hqb
            go_enter Try.func8, Try.ntmps8
            go_upto_region 3 with (first
              | (go_at_call 35; refine (rPrime_any n hn0.1 hn0.2 _).mono ?_; rintro _ w0 ⟨rfl, hb0⟩; rw [← HP.out]; have hA0 := HM.out.1.hold hb0.b; have hB0 := HM.out.2.2.1.hold hb0.b; have HM0 := Lib.hid (And.intro hA0 (And.intro hB0 hb0.b)); clear hA0 hB0 hb0)
              | (go_at_call 16; refine (awake5_u _).mono ?_; rintro _ w1 ⟨rfl, hb1⟩)
              | (go_at_call 17; (with_reducible show Calls _ _ #[.slice a0 _ _] _ _); refine (small5_u _ A _ (HM0.out.1.hold hb1) hn HM.out.2.1).mono ?_; rintro e w2 ⟨rfl, hwA⟩; obtain rfl : w1 = w2 := hwA.symm; rw [HS.out.1])
              | (go_at_call 17; (with_reducible show Calls _ _ #[.slice a1 _ _] _ _); refine (small5_u _ B _ (HM0.out.2.1.hold hb1) hm HM.out.2.2.2).mono ?_; rintro e w2 ⟨rfl, hwB⟩; obtain rfl : w1 = w2 := hwB.symm; rw [HS.out.2])
              | (go_at_call 36; (with_reducible show Calls _ _ #[.slice a0 _ _] _ _); refine (kSquare_u _ A _ (HM0.out.1.hold hb1) b3 HS4.out.1).mono ?_; rintro e wqA ⟨rfl, hbqA⟩; rw [HQA.out])
              | (go_at_call 36; (with_reducible show Calls _ _ #[.slice a1 _ _] _ _); refine (kSquare_u _ B _ (HM0.out.2.1.hold (Below.next (Nat.le_refl _) hb1 hbqA.b)) d3 HS4.out.2).mono ?_; rintro e wqB ⟨rfl, hbqB⟩; rw [HQB.out])
              | fail)
            have HB := Lib.hid (Below.next (Nat.le_refl _) (Below.next (Nat.le_refl _) hb1 hbqA.b) hbqB.b)
            go_wp2_with (go_at_call 16; refine (awake5_u _).mono ?_; rintro _ w3 ⟨rfl, hb3⟩)
            go_ret
            exact ⟨rfl, Below.next (Nat.le_refl _) (Below.next (Nat.le_refl _) HM0.out.2.2 HB.out) hb3⟩
        · have HQB := Lib.hid (decide_eq_false hqb)
          clear hqa hqb
          go_enter Try.func8, Try.ntmps8
          go_upto_region 3 with (first
            | (go_at_call 35; refine (rPrime_any n hn0.1 hn0.2 _).mono ?_; rintro _ w0 ⟨rfl, hb0⟩; rw [← HP.out]; have hA0 := HM.out.1.hold hb0.b; have hB0 := HM.out.2.2.1.hold hb0.b; have HM0 := Lib.hid (And.intro hA0 (And.intro hB0 hb0.b)); clear hA0 hB0 hb0)
            | (go_at_call 16; refine (awake5_u _).mono ?_; rintro _ w1 ⟨rfl, hb1⟩)
            | (go_at_call 17; (with_reducible show Calls _ _ #[.slice a0 _ _] _ _); refine (small5_u _ A _ (HM0.out.1.hold hb1) hn HM.out.2.1).mono ?_; rintro e w2 ⟨rfl, hwA⟩; obtain rfl : w1 = w2 := hwA.symm; rw [HS.out.1])
            | (go_at_call 17; (with_reducible show Calls _ _ #[.slice a1 _ _] _ _); refine (small5_u _ B _ (HM0.out.2.1.hold hb1) hm HM.out.2.2.2).mono ?_; rintro e w2 ⟨rfl, hwB⟩; obtain rfl : w1 = w2 := hwB.symm; rw [HS.out.2])
            | (go_at_call 36; (with_reducible show Calls _ _ #[.slice a0 _ _] _ _); refine (kSquare_u _ A _ (HM0.out.1.hold hb1) b3 HS4.out.1).mono ?_; rintro e wqA ⟨rfl, hbqA⟩; rw [HQA.out])
            | (go_at_call 36; (with_reducible show Calls _ _ #[.slice a1 _ _] _ _); refine (kSquare_u _ B _ (HM0.out.2.1.hold (Below.next (Nat.le_refl _) hb1 hbqA.b)) d3 HS4.out.2).mono ?_; rintro e wqB ⟨rfl, hbqB⟩; rw [HQB.out])
            | fail)
          have HB := Lib.hid (Below.next (Nat.le_refl _) (Below.next (Nat.le_refl _) hb1 hbqA.b) hbqB.b)
          go_wp2_with (go_at_call 16; refine (awake5_u _).mono ?_; rintro _ w3 ⟨rfl, hb3⟩)
          go_ret
          exact ⟨rfl, Below.next (Nat.le_refl _) (Below.next (Nat.le_refl _) HM0.out.2.2 HB.out) hb3⟩
      · have HQA := Lib.hid (decide_eq_false hqa)
        clear hqa
        go_enter Try.func8, Try.ntmps8
        go_upto_region 3 with (first
          | (go_at_call 35; refine (rPrime_any n hn0.1 hn0.2 _).mono ?_; rintro _ w0 ⟨rfl, hb0⟩; rw [← HP.out]; have hA0 := HM.out.1.hold hb0.b; have hB0 := HM.out.2.2.1.hold hb0.b; have HM0 := Lib.hid (And.intro hA0 (And.intro hB0 hb0.b)); clear hA0 hB0 hb0)
          | (go_at_call 16; refine (awake5_u _).mono ?_; rintro _ w1 ⟨rfl, hb1⟩)
          | (go_at_call 17; (with_reducible show Calls _ _ #[.slice a0 _ _] _ _); refine (small5_u _ A _ (HM0.out.1.hold hb1) hn HM.out.2.1).mono ?_; rintro e w2 ⟨rfl, hwA⟩; obtain rfl : w1 = w2 := hwA.symm; rw [HS.out.1])
          | (go_at_call 17; (with_reducible show Calls _ _ #[.slice a1 _ _] _ _); refine (small5_u _ B _ (HM0.out.2.1.hold hb1) hm HM.out.2.2.2).mono ?_; rintro e w2 ⟨rfl, hwB⟩; obtain rfl : w1 = w2 := hwB.symm; rw [HS.out.2])
          | (go_at_call 36; (with_reducible show Calls _ _ #[.slice a0 _ _] _ _); refine (kSquare_u _ A _ (HM0.out.1.hold hb1) b3 HS4.out.1).mono ?_; rintro e wqA ⟨rfl, hbqA⟩; rw [HQA.out])
          | fail)
        have HB := Lib.hid (Below.next (Nat.le_refl _) hb1 hbqA.b)
        go_wp2_with (go_at_call 16; refine (awake5_u _).mono ?_; rintro _ w3 ⟨rfl, hb3⟩)
        go_ret
        exact ⟨rfl, Below.next (Nat.le_refl _) (Below.next (Nat.le_refl _) HM0.out.2.2 HB.out) hb3⟩
    · have HS := Lib.hid (And.intro (decide_eq_true hsa) (decide_eq_false hsb))
      clear hsa hsb
      go_enter Try.func8, Try.ntmps8
      go_upto_region 3 with (first
        | (go_at_call 35; refine (rPrime_any n hn0.1 hn0.2 _).mono ?_; rintro _ w0 ⟨rfl, hb0⟩; rw [← HP.out]; have hA0 := HM.out.1.hold hb0.b; have hB0 := HM.out.2.2.1.hold hb0.b; have HM0 := Lib.hid (And.intro hA0 (And.intro hB0 hb0.b)); clear hA0 hB0 hb0)
        | (go_at_call 16; refine (awake5_u _).mono ?_; rintro _ w1 ⟨rfl, hb1⟩)
        | (go_at_call 17; (with_reducible show Calls _ _ #[.slice a0 _ _] _ _); refine (small5_u _ A _ (HM0.out.1.hold hb1) hn HM.out.2.1).mono ?_; rintro e w2 ⟨rfl, hwA⟩; obtain rfl : w1 = w2 := hwA.symm; rw [HS.out.1])
        | (go_at_call 17; (with_reducible show Calls _ _ #[.slice a1 _ _] _ _); refine (small5_u _ B _ (HM0.out.2.1.hold hb1) hm HM.out.2.2.2).mono ?_; rintro e w2 ⟨rfl, hwB⟩; obtain rfl : w1 = w2 := hwB.symm; rw [HS.out.2])
        | fail)
      have HB := Lib.hid (hb1)
      go_wp2_with (go_at_call 16; refine (awake5_u _).mono ?_; rintro _ w3 ⟨rfl, hb3⟩)
      go_ret
      exact ⟨rfl, Below.next (Nat.le_refl _) (Below.next (Nat.le_refl _) HM0.out.2.2 HB.out) hb3⟩
  · have HS := Lib.hid (decide_eq_false hsa)
    clear hsa
    go_enter Try.func8, Try.ntmps8
    go_upto_region 3 with (first
      | (go_at_call 35; refine (rPrime_any n hn0.1 hn0.2 _).mono ?_; rintro _ w0 ⟨rfl, hb0⟩; rw [← HP.out]; have hA0 := HM.out.1.hold hb0.b; have hB0 := HM.out.2.2.1.hold hb0.b; have HM0 := Lib.hid (And.intro hA0 (And.intro hB0 hb0.b)); clear hA0 hB0 hb0)
      | (go_at_call 16; refine (awake5_u _).mono ?_; rintro _ w1 ⟨rfl, hb1⟩)
      | (go_at_call 17; (with_reducible show Calls _ _ #[.slice a0 _ _] _ _); refine (small5_u _ A _ (HM0.out.1.hold hb1) hn HM.out.2.1).mono ?_; rintro e w2 ⟨rfl, hwA⟩; obtain rfl : w1 = w2 := hwA.symm; rw [HS.out])
      | fail)
    have HB := Lib.hid (hb1)
    go_wp2_with (go_at_call 16; refine (awake5_u _).mono ?_; rintro _ w3 ⟨rfl, hb3⟩)
    go_ret
    exact ⟨rfl, Below.next (Nat.le_refl _) (Below.next (Nat.le_refl _) HM0.out.2.2 HB.out) hb3⟩
end Go.Proofs.Ytdcdaclkeocfpaa
