/- The walk of the statement on Kernel. -/
import Derived.Test.YtdcdaclkeocfpaaKQ
namespace Go.Proofs.Ytdcdaclkeocfpaa
open Go.RowKit Go.BigFrame
open Classical

theorem kerTo_row {p : Int} {R : List (List Int)} {c : List Nat} {n k : Nat} {X : List Int} (h : X ∈ kerTo p R c n k) : X.length = n := by
  obtain ⟨j, _, rfl⟩ := List.mem_map.1 h
  exact kx_len _ _ _ _ _ _

set_option maxRecDepth 100000 in
set_option maxHeartbeats 8000000 in
theorem law_jkernel (p : Int) [hU : U p] (v : Value) (M : List (List Int)) (w : World) (hM : MatR w v M) (hn : M.length ≤ 9223372036854775807) (hr : ∀ i (h : i < M.length), M[i].length ≤ 9223372036854775807) :
    Calls Try.prog 5 #[.int .u64 p, v] w fun e w' => e = .returned (.bool true) ∧ Below w.heap.size w w' := by
  have HM := Lib.hid (And.intro hM hr)
  clear hM hr
  by_cases hs : Sml M 12
  · skip
    obtain ⟨b1, b2⟩ := hs.rows (m := 100) (by decide)
    obtain ⟨b3, b4⟩ := hs.rows (m := 100000) (by decide)
    have HS := Lib.hid (And.intro (decide_eq_true hs) (And.intro b2 b4))
    clear hs b2 b4
    go_enter Try.func5, Try.ntmps5
    go_upto_region 3 with (first
      | (go_at_call 16; refine (awake5_u _).mono ?_; rintro _ w1 ⟨rfl, hb1⟩)
      | (go_at_call 17; refine (small5_u _ M _ (HM.out.1.hold hb1) hn HM.out.2).mono ?_; rintro e w2 ⟨rfl, hw2⟩; obtain rfl : w1 = w2 := hw2.symm; rw [HS.out.1]))
    have HB := Lib.hid hb1
    clear hb1
    go_upto_region 4 with fail
    refine name_world ?_
    intro W hW
    have hf : W.cell? ⟨w1.heap.size, 0, none⟩ = some (.int .u64 p) := by rw [hW]; go_simp
    have hbW : Below w.heap.size w W := by rw [hW]; exact Below.made (Nat.le_refl _) HB.out _
    have HBW := Lib.hid hbW
    clear hW hbW HB
    have G0 := fun (w' : World) (h : Below W.heap.size W w') => Below.hold h hf
    have F := Below.refl W.heap.size W
    go_region_held3 (fun w' => Below W.heap.size W w')
      (repeat (first | assumption | refine Below.drew ?_ | refine Below.next (Nat.le_refl _) ?_ (by assumption)))
      (first
        | (go_at_call 19; refine (cp5_u v M _ (HM.out.1.hold (Below.next (Nat.le_refl _) HBW.out (by assumption))) b3 HS.out.2.2).mono ?_; rintro _ w3 ⟨v3, rs, rfl, hown, hb3⟩; have hs3 : Below W.heap.size W w3 := Below.next (Nat.le_refl _) (by assumption) hb3)
        | (go_at_call 26; refine (mKernel_p p v3 M _ (hown.matR.hold (by repeat (first | exact Below.refl _ _ | refine Below.drew ?_))) b1 HS.out.2.1).mono ?_; rintro _ w4 ⟨v4, R, c, rfl, hR, hred, hb4⟩; have hs4 : Below W.heap.size W w4 := Below.next (Nat.le_refl _) (by repeat (first | assumption | refine Below.drew ?_)) hb4)
        | fail)
    all_goals
      obtain ⟨f1, f2, f3, f4, -⟩ := hred.facts
      obtain ⟨K, hK⟩ : ∃ K, K = kerTo p R c (cols R) (cols R) := ⟨_, rfl⟩
      have hKl : K.length ≤ 64 := by rw [hK]; exact Nat.le_trans (kerTo_len _ _ _ _ _) f1
      have hKr : ∀ i (h : i < K.length), K[i].length ≤ 64 := fun i h => by
        have hm : K[i] ∈ kerTo p R c (cols R) (cols R) := by rw [← hK]; exact List.getElem_mem h
        rw [kerTo_row hm]; exact f1
      have hKz : ∀ i (h : i < K.length), ∀ y ∈ apL p M K[i], y = 0 := fun i h => apL_zero hred (by rw [← hK]; exact List.getElem_mem h)
      rw [← hK] at hR
      obtain ⟨a4, n4, rfl⟩ := hR.shape
      have HX := Lib.hid (And.intro hR (And.intro (Below.next (Nat.le_refl _) HBW.out hs4) (And.intro hKr (And.intro hKz (And.intro hred hK)))))
      have i1 : (K.length : Int) ≤ 64 := by omega
      clear hR hred hs4 hb4 hs3 hb3 hown hKr hKz hK F G0 hf
      go_wp2_with (first
        | (go_at_call 27; refine (kKernel_u p v M _ (HM.out.1.hold HX.out.2.1) b3 HS.out.2.2).mono ?_; rintro _ w5 ⟨v5, rs5, R5, c5, rfl, hown5, hred5, hb5⟩
           obtain ⟨rfl, rfl⟩ := HX.out.2.2.2.2.1.unique hred5
           rw [← HX.out.2.2.2.2.2] at hown5)
        | (go_at_call 21; refine (kSame_b _ _ K K _ (HX.out.1.hold hb5) hown5.matR (by omega) (by omega) (fun i h => Nat.le_trans (HX.out.2.2.1 i h) (by decide)) (fun i h => Nat.le_trans (HX.out.2.2.1 i h) (by decide))).mono ?_; rintro _ w6 ⟨rfl, hb6⟩; rw [decide_eq_true (rfl : K = K)]
           have HZ := Lib.hid (And.intro ((HX.out.1.hold hb5).hold hb6) (Below.next (Nat.le_refl _) (Below.next (Nat.le_refl _) HX.out.2.1 hb5) hb6))))
      clear hb5 hb6 hown5 hred5
      go_loopw [33] (fun iv wr => ∃ i : Nat, iv = .int .i64 i ∧ i ≤ K.length ∧ Below w6.heap.size w6 wr) (fun iv _ => K.length - (intOf iv).toNat)
      case atStart => exact ⟨0, rfl, Nat.zero_le _, Below.refl _ _⟩
      case round =>
        obtain ⟨i, rfl, hi, hb⟩ := hrel
        have i0 : (0 : Int) ≤ (i : Int) := by omega
        by_cases hlt : i < K.length
        · obtain ⟨b, o, cx, rv, e, hcr, hlr⟩ := (HZ.out.1.hold hb).rows i hlt
          obtain ⟨rfl, rfl⟩ : a4 = some ⟨b, o, none⟩ ∧ n4 = cx := by simp at e; exact e
          have hzr := HX.out.2.2.2.1 i hlt
          have hrl := HX.out.2.2.1 i hlt
          obtain ⟨X, hX⟩ : ∃ X, X = K[i] := ⟨_, rfl⟩
          rw [← hX] at hlr hzr hrl
          have i2 : (i : Int) < (K.length : Int) := by omega
          obtain ⟨ar, nr, rfl⟩ := hlr.shape
          have HV := Lib.hid (And.intro hlr (And.intro hb hzr))
          clear hlr hb hzr hX e
          go_wp2_with (go_at_call 28; refine (kApply_u p v _ M X _ (HM.out.1.hold (Below.next (Nat.le_refl _) HZ.out.2 HV.out.2.1)) HV.out.1 b3 HS.out.2.2 (by omega)).mono ?_; rintro _ w7 ⟨v7, rfl, hown7, hb7⟩; obtain ⟨a7, n7, rfl⟩ := hown7.slice)
          obtain ⟨Y, hY⟩ : ∃ Y, Y = apL p M X := ⟨_, rfl⟩
          rw [← hY] at hown7 ⊢
          have hyz : ∀ y ∈ Y, y = 0 := by rw [hY]; exact HV.out.2.2
          have hyl : Y.length ≤ 100 := by
            rw [hY]; unfold apL
            split
            · simp; omega
            · simp
          have HU := Lib.hid (And.intro hown7.lst (And.intro (Below.next (Nat.le_refl _) HV.out.2.1 hb7) hyz))
          have i3 : (Y.length : Int) ≤ 100 := by omega
          clear hown7 hb7 hY hyz
          go_loopw [42] (fun jv wx => ∃ j : Nat, jv = .int .i64 j ∧ j ≤ Y.length ∧ wx = w7) (fun jv _ => Y.length - (intOf jv).toNat)
          case atStart => exact ⟨0, rfl, Nat.zero_le _, rfl⟩
          case round =>
            obtain ⟨j, rfl, hj, hwx⟩ := hrel
            obtain rfl : w7 = wr := hwx.symm
            have j0 : (0 : Int) ≤ (j : Int) := by omega
            by_cases hjl : j < Y.length
            · obtain ⟨b2, o2, cy, e2, hcc⟩ := HU.out.1.cells j hjl
              obtain ⟨rfl, rfl⟩ : a7 = some ⟨b2, o2, none⟩ ∧ n7 = cy := by simp at e2; exact e2
              have hy0 := HU.out.2.2 Y[j] (List.getElem_mem hjl)
              rw [hy0] at hcc
              have j1 : (j : Int) < (Y.length : Int) := by omega
              clear e2 hy0
              go_wp2
              exact ⟨⟨j + 1, by go_num, by omega, by first | rfl | trivial⟩, by simp [intOf]; omega⟩
            · obtain rfl : j = Y.length := by omega
              go_wp2
              exact ⟨⟨i + 1, by go_num, by omega, HU.out.2.1⟩, by simp [intOf]; omega⟩
        · obtain rfl : i = K.length := by omega
          have HV := Lib.hid hb
          clear hb
          go_wp2
          go_ret
          exact ⟨rfl, Below.next (Nat.le_refl _) HZ.out.2 HV.out⟩
  · skip
    have HS := Lib.hid (decide_eq_false hs)
    clear hs
    go_enter Try.func5, Try.ntmps5
    go_upto_region 2 with (first
      | (go_at_call 16; refine (awake5_u _).mono ?_; rintro _ w1 ⟨rfl, hb1⟩)
      | (go_at_call 17; refine (small5_u _ M _ (HM.out.1.hold hb1) hn HM.out.2).mono ?_; rintro e w2 ⟨rfl, rfl⟩; rw [HS.out]))
    have HB := Lib.hid hb1
    clear hb1
    go_wp2_with (go_at_call 16; refine (awake5_u _).mono ?_; rintro _ w3 ⟨rfl, hb3⟩)
    go_ret
    exact ⟨rfl, Below.next (Nat.le_refl _) HB.out hb3⟩
end Go.Proofs.Ytdcdaclkeocfpaa
