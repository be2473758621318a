/- The walk of the statement on Reduce and Rank. -/
import Derived.Test.YtdcdaclkeocfpaaKQ
namespace Go.Proofs.Ytdcdaclkeocfpaa
open Go.RowKit Go.BigFrame
open Classical

set_option maxRecDepth 100000 in
set_option maxHeartbeats 8000000 in
theorem law_jreduce (p : Int) [hU : U p] (v : Value) (M : List (List Int)) (w : World) (hM : MatR w v M) (hn : M.length ≤ 9223372036854775807) (hr : ∀ i (h : i < M.length), M[i].length ≤ 9223372036854775807) :
    Calls Try.prog 3 #[.int .u64 p, v] w fun e w' => e = .returned (.bool true) ∧ Below w.heap.size w w' := by
  have HM := Lib.hid (And.intro hM hr)
  clear hM hr
  by_cases hs : Sml M 12
  · skip
    obtain ⟨b1, b2⟩ := hs.rows (m := 100) (by decide)
    obtain ⟨b3, b4⟩ := hs.rows (m := 100000) (by decide)
    have HS := Lib.hid (And.intro (decide_eq_true hs) (And.intro b2 b4))
    clear hs b2 b4
    go_enter Try.func3, Try.ntmps3
    go_upto_region 3 with (first
      | (go_at_call 16; refine (awake5_u _).mono ?_; rintro _ w1 ⟨rfl, hb1⟩)
      | (go_at_call 17; refine (small5_u _ M _ (HM.out.1.hold hb1) hn HM.out.2).mono ?_; rintro e w2 ⟨rfl, hw2⟩; obtain rfl : w1 = w2 := hw2.symm; rw [HS.out.1]))
    have HB := Lib.hid hb1
    clear hb1
    go_upto_region 4 with fail
    refine name_world ?_
    intro W hW
    have hf : W.cell? ⟨w1.heap.size, 0, none⟩ = some (.int .u64 p) := by rw [hW]; go_simp
    have hbW : Below w.heap.size w W := by rw [hW]; exact Below.made (Nat.le_refl _) HB.out _
    have HBW := Lib.hid hbW
    clear hW hbW HB
    have G0 := fun (w' : World) (h : Below W.heap.size W w') => Below.hold h hf
    have F := Below.refl W.heap.size W
    go_region_held3 (fun w' => Below W.heap.size W w')
      (repeat (first | assumption | refine Below.drew ?_ | refine Below.next (Nat.le_refl _) ?_ (by assumption)))
      (first
        | (go_at_call 19; refine (cp5_u v M _ (HM.out.1.hold (Below.next (Nat.le_refl _) HBW.out (by assumption))) b3 HS.out.2.2).mono ?_; rintro _ w3 ⟨v3, rs, rfl, hown, hb3⟩; have hs3 : Below W.heap.size W w3 := Below.next (Nat.le_refl _) (by assumption) hb3)
        | (go_at_call 18; refine (mReduce_p p v3 M _ (hown.matR.hold (by repeat (first | exact Below.refl _ _ | refine Below.drew ?_))) b1 HS.out.2.1).mono ?_; rintro _ w4 ⟨v4, v5, R, c, rfl, hR, hc, hred, hb4⟩; have hs4 : Below W.heap.size W w4 := Below.next (Nat.le_refl _) (by repeat (first | assumption | refine Below.drew ?_)) hb4)
        | fail)
    all_goals
      have HX := Lib.hid (And.intro hR (And.intro hc (And.intro hred hs4)))
      clear hR hc hred hs4 hb4 hs3 hb3 hown
      go_upto_region 6 with (go_at_call 20; refine (kReduce_u p v M _ (HM.out.1.hold (Below.next (Nat.le_refl _) HBW.out HX.out.2.2.2)) b3 HS.out.2.2).mono ?_; rintro _ w5 ⟨v6, v7, rs5, R2, c2, rfl, hR2, hc2, hred2, hb5⟩)
      obtain ⟨rfl, rfl⟩ := HX.out.2.2.1.unique hred2
      obtain ⟨f1, f2, f3, f4, -⟩ := hred2.facts
      have hR5 := HX.out.1.hold hb5
      have hc5 := HX.out.2.1.hold hb5
      have hc6 := hc2.lst
      obtain ⟨a5, n5, rfl⟩ := hc5.shape
      obtain ⟨a7, n7, rfl⟩ := hc6.shape
      have hs5 := Below.next (Nat.le_refl _) HX.out.2.2.2 hb5
      have hf5 := G0 _ hs5
      have HB5 := Lib.hid (Below.next (Nat.le_refl _) HBW.out hs5)
      have HY := Lib.hid (And.intro hR5 (And.intro hR2.matR (And.intro hc5 (And.intro hc6 (And.intro hred2 f4)))))
      have i1 : (c.length : Int) ≤ 64 := by omega
      have hne : ((c.length : Int) != (c.length : Int)) = false := by simp
      clear hR5 hR2 hc5 hc6 hc2 hred2 f4 hb5 hs5 HX F G0 hf
      have G0 := fun (w' : World) (h : Below w5.heap.size w5 w') => Below.hold h hf5
      have F := Below.refl w5.heap.size w5
      go_region_held3 (fun w' => Below w5.heap.size w5 w')
        (repeat (first | assumption | refine Below.drew ?_ | refine Below.next (Nat.le_refl _) ?_ (by assumption)))
        (first
          | (go_at_call 21; refine (kSame_b _ _ R R _ (HY.out.1.hold (by assumption)) (HY.out.2.1.hold (by assumption)) (by omega) (by omega) (fun i h => by rw [HY.out.2.2.2.2.2 i h]; omega) (fun i h => by rw [HY.out.2.2.2.2.2 i h]; omega)).mono ?_; rintro _ w6 ⟨rfl, hb6⟩; rw [decide_eq_true (rfl : R = R)]; have hs6 : Below w5.heap.size w5 w6 := Below.next (Nat.le_refl _) (by assumption) hb6)
          | (go_at_call 19; refine (cp5_u v M _ (HM.out.1.hold (Below.next (Nat.le_refl _) HB5.out (by assumption))) b3 HS.out.2.2).mono ?_; rintro _ w7 ⟨v9, rs9, rfl, hown9, hb7⟩; have hs7 : Below w5.heap.size w5 w7 := Below.next (Nat.le_refl _) (by assumption) hb7)
          | (go_at_call 22; refine (mRank_p p v9 M _ (hown9.matR.hold (by repeat (first | exact Below.refl _ _ | refine Below.drew ?_))) b1 HS.out.2.1).mono ?_; rintro _ w8 ⟨R8, c8, rfl, hred8, hb8⟩; obtain ⟨-, rfl⟩ := HY.out.2.2.2.2.1.unique hred8; have hs8 : Below w5.heap.size w5 w8 := Below.next (Nat.le_refl _) (by repeat (first | assumption | refine Below.drew ?_)) hb8)
          | fail)
      all_goals
        have hz1 := HY.out.2.2.1.hold hs8
        have hz2 := HY.out.2.2.2.1.hold hs8
        have HZ := Lib.hid (And.intro hz1 (And.intro hz2 (Below.next (Nat.le_refl _) HB5.out hs8)))
        clear hz1 hz2 hs6 hs7 hs8 hb6 hb7 hb8 hown9 hred8 F G0 hf5
        go_wp2_with fail
        go_loopw [56] (fun iv wr => ∃ i : Nat, iv = .int .i64 i ∧ i ≤ c.length ∧ Nw w8.heap.size w8 wr) (fun iv _ => c.length - (intOf iv).toNat)
        case atStart => exact ⟨0, rfl, Nat.zero_le _, Nw.refl _ _⟩
        case round =>
          obtain ⟨i, rfl, hi, hb⟩ := hrel
          have i0 : (0 : Int) ≤ (i : Int) := by omega
          by_cases hlt : i < c.length
          · obtain ⟨b, o, cx, e, hca⟩ := (HZ.out.1.hold hb.b).cells i hlt
            obtain ⟨rfl, rfl⟩ : a5 = some ⟨b, o, none⟩ ∧ n5 = cx := by simp at e; exact e
            obtain ⟨b', o', cy, e', hcb⟩ := (HZ.out.2.1.hold hb.b).cells i hlt
            obtain ⟨rfl, rfl⟩ : a7 = some ⟨b', o', none⟩ ∧ n7 = cy := by simp at e'; exact e'
            obtain ⟨x, hx⟩ : ∃ x, x = c[i] := ⟨_, rfl⟩
            rw [← hx] at hca hcb
            have i2 : (i : Int) < (c.length : Int) := by omega
            have i3 : ((x : Int) != (x : Int)) = false := by simp
            have HV := Lib.hid hb
            clear hb e e' hx
            go_upto_region 11 with fail
            have k0 := fun q : NwAt wr => q.nw.hold hca
            have k1 := fun q : NwAt wr => q.nw.hold hcb
            refine from_here ?_
            intro q
            refine wp_region_nw (by kernel_rfl) (by kernel_rfl) ?_
            repeat (go_big_quiet_step ((first | fail)))
            refine wpQuiet_nil ?_
            clear q
            rintro _ ⟨q, rfl⟩
            clear k0 k1
            go_wp2
            exact ⟨⟨i + 1, by go_num, by omega, Nw.next (Nat.le_refl _) HV.out q.nw⟩, by simp [intOf]; omega⟩
          · obtain rfl : i = c.length := by omega
            have HV := Lib.hid hb
            clear hb
            go_wp2
            go_ret
            exact ⟨rfl, Below.next (Nat.le_refl _) HZ.out.2.2 HV.out.b⟩
  · skip
    have HS := Lib.hid (decide_eq_false hs)
    clear hs
    go_enter Try.func3, Try.ntmps3
    go_upto_region 2 with (first
      | (go_at_call 16; refine (awake5_u _).mono ?_; rintro _ w1 ⟨rfl, hb1⟩)
      | (go_at_call 17; refine (small5_u _ M _ (HM.out.1.hold hb1) hn HM.out.2).mono ?_; rintro e w2 ⟨rfl, rfl⟩; rw [HS.out]))
    have HB := Lib.hid hb1
    clear hb1
    go_wp2_with (go_at_call 16; refine (awake5_u _).mono ?_; rintro _ w3 ⟨rfl, hb3⟩)
    go_ret
    exact ⟨rfl, Below.next (Nat.le_refl _) HB.out hb3⟩
end Go.Proofs.Ytdcdaclkeocfpaa
