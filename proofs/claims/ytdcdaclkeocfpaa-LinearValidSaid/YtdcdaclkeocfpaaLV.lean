/- The walk of the statement on Valid. -/
import Derived.Test.YtdcdaclkeocfpaaKQ
namespace Go.Proofs.Ytdcdaclkeocfpaa
open Go.RowKit Go.BigFrame
open Classical

set_option maxRecDepth 100000 in
set_option maxHeartbeats 16000000 in
theorem law_jvalid (v : Value) (M : List (List Int)) (w : World) (hM : MatR w v M) (hn : M.length ≤ 9223372036854775807) (hr : ∀ i (h : i < M.length), M[i].length ≤ 9223372036854775807) :
    Calls Try.prog 11 #[v] w fun e w' => e = .returned (.bool true) ∧ Below w.heap.size w w' := by
  obtain ⟨a0, c0, rfl⟩ := hM.shape
  have HM := Lib.hid (And.intro hM hr)
  clear hM hr
  have hU : U 97 := ⟨by decide, by decide⟩
  by_cases hs : Sml M 80
  · obtain ⟨b1, b2⟩ := hs.rows (m := 100) (by decide)
    obtain ⟨b3, b4⟩ := hs.rows (m := 100000) (by decide)
    have HS := Lib.hid (And.intro (decide_eq_true hs) (And.intro b2 b4))
    clear hs b2 b4
    obtain ⟨x, hx⟩ : ∃ x, x = decide (Vld M) := ⟨_, rfl⟩
    have HV := Lib.hid hx
    have hxx : (x != x) = false := by simp
    go_enter Try.func11, Try.ntmps11
    clear hx
    go_upto_region 3 with (first
      | (go_at_call 16; refine (awake5_u _).mono ?_; rintro _ w1 ⟨rfl, hb1⟩)
      | (go_at_call 29; refine (kSmall_u _ M 80 _ (HM.out.1.hold hb1) hn HM.out.2 (by decide)).mono ?_; rintro e w2 ⟨rfl, hw2⟩; obtain rfl : w1 = w2 := hw2.symm; rw [HS.out.1]))
    have HB := Lib.hid hb1
    clear hb1
    go_upto_region 6 with (first
      | (go_at_call 19; refine (cp5_u _ M _ (HM.out.1.hold HB.out) b3 HS.out.2.2).mono ?_; rintro _ w3 ⟨v3, rs, rfl, hown, hb3⟩)
      | (go_at_call 44; refine (mValid_u v3 M _ hown.matR b3 HS.out.2.2).mono ?_; rintro _ w4 ⟨rfl, hb4⟩; rw [← HV.out]; have g4 := Below.next (Nat.le_refl _) (Below.next (Nat.le_refl _) HB.out hb3) hb4.b)
      | (go_at_call 40; refine (kValid_u _ M _ (HM.out.1.hold g4) b3 HS.out.2.2).mono ?_; rintro _ w5 ⟨rfl, hb5⟩; rw [← HV.out]; have g5 := Below.next (Nat.le_refl _) g4 hb5.b)
      | fail)
    refine name_world ?_
    intro W hW
    have hf : W.cell? ⟨w5.heap.size, 0, none⟩ = some (.int .u64 97) := by rw [hW]; go_simp
    have hbW : Below w.heap.size w W := by rw [hW]; exact Below.made (Nat.le_refl _) g5 _
    have HBW := Lib.hid hbW
    clear hW hbW HB hb3 hb4 hb5 g4 g5 hown
    have G0 := fun (w' : World) (h : Below W.heap.size W w') => Below.hold h hf
    have F := Below.refl W.heap.size W
    go_region_held3 (fun w' => Below W.heap.size W w')
      (first | assumption | exact Below.drew (by assumption))
      (first
        | (go_at_call 19; refine (cp5_u _ M _ (HM.out.1.hold (Below.next (Nat.le_refl _) HBW.out (by assumption))) b3 HS.out.2.2).mono ?_; rintro _ w6 ⟨v6, rs6, rfl, hown6, hb6⟩; have hs6 : Below W.heap.size W w6 := Below.next (Nat.le_refl _) (by assumption) hb6)
        | (go_at_call 18; refine (mReduce_p 97 v6 M _ (hown6.matR.hold (by repeat (first | exact Below.refl _ _ | refine Below.drew ?_))) b1 HS.out.2.1).mono ?_; rintro _ w7 ⟨v7, v8, R, c, rfl, hR, hc, hred, hb7⟩; have hs7 : Below W.heap.size W w7 := Below.next (Nat.le_refl _) (by repeat (first | assumption | refine Below.drew ?_)) hb7)
        | fail)
    all_goals
      obtain ⟨a7, c7, rfl⟩ := hR.shape
      obtain ⟨a8, c8, rfl⟩ := hc.shape
      have hf7 := G0 _ hs7
      have hg7 := Below.next (Nat.le_refl _) HBW.out hs7
      have HX := Lib.hid (And.intro hred hg7)
      obtain ⟨f1, f2, f3, -, -⟩ := hred.facts
      clear hs6 hs7 hb6 hb7 hown6 hR hc hred hg7 G0 F hf
      go_upto_region 7 with fail
      by_cases hv : Vld M
      · have hx1 : x = true := HV.out.trans (decide_eq_true hv)
        subst hx1
        clear hv
        have HQ := Lib.hid (fun q : NwAt w7 => ((kValid_u _ M q.out (HM.out.1.hold (Below.next (Nat.le_refl _) HX.out.2 q.nw.b)) b3 HS.out.2.2).mono fun _ _ h => ⟨h.1.trans (by rw [← HV.out]), h.2⟩ : Calls Try.prog 40 #[.slice a0 M.length c0] q.out fun e w' => e = .returned (.bool true) ∧ Nw q.out.heap.size q.out w'))
        refine from_here ?_
        intro q
        refine wp_region_nw (by kernel_rfl) (by kernel_rfl) ?_
        repeat (go_big_quiet_step ((first | (go_at_call 40; exact nwAt_of (HQ.out _)))))
        refine wpQuiet_nil ?_
        clear q
        rintro _ ⟨q, rfl⟩
        have HZ := Lib.hid (Below.next (Nat.le_refl _) HX.out.2 q.nw.b)
        go_wp2
        go_ret
        exact ⟨rfl, HZ.out⟩
      · have hx1 : x = false := HV.out.trans (decide_eq_false hv)
        subst hx1
        have hno : ¬ OkM 97 M := fun h => hv h.2
        obtain ⟨rfl, rfl⟩ := HX.out.1.2 hno
        have hdet : detI 97 M = 0 := by unfold detI; rw [if_neg fun h => hno h.1]
        have HN := Lib.hid (And.intro hno hdet)
        clear hv hno hdet
        have G0 := fun (w' : World) (h : Below w7.heap.size w7 w') => Below.hold h hf7
        have F := Below.refl w7.heap.size w7
        go_region_held3 (fun w' => Below w7.heap.size w7 w')
          (first | assumption | exact Below.drew (by assumption))
          (first
            | (go_at_call 40; refine (kValid_u _ M _ (HM.out.1.hold (Below.next (Nat.le_refl _) HX.out.2 (by assumption))) b3 HS.out.2.2).mono ?_; rintro _ w8 ⟨rfl, hb8⟩; rw [← HV.out]; have hs8 : Below w7.heap.size w7 w8 := Below.next (Nat.le_refl _) (by assumption) hb8.b)
            | (go_at_call 19; refine (cp5_u _ M _ (HM.out.1.hold (Below.next (Nat.le_refl _) HX.out.2 (by assumption))) b3 HS.out.2.2).mono ?_; rintro _ w9 ⟨v9, rs9, rfl, hown9, hb9⟩; have hs9 : Below w7.heap.size w7 w9 := Below.next (Nat.le_refl _) (by assumption) hb9)
            | (go_at_call 22; refine (mRank_p 97 v9 M _ hown9.matR b1 HS.out.2.1).mono ?_; rintro _ w10 ⟨R2, c2, rfl, hred2, hb10⟩; obtain ⟨rfl, rfl⟩ := hred2.2 HN.out.1; have hs10 : Below w7.heap.size w7 w10 := Below.next (Nat.le_refl _) (by assumption) hb10)
            | (go_at_call 34; refine (mDeterminant_p 97 v9 M _ hown9.matR b1 HS.out.2.1).mono ?_; rintro _ w11 ⟨rfl, hb11⟩; rw [HN.out.2]; have hs11 : Below w7.heap.size w7 w11 := Below.next (Nat.le_refl _) (by assumption) hb11)
            | (go_at_call 26; refine (mKernel_p 97 v9 M _ hown9.matR b1 HS.out.2.1).mono ?_; rintro _ w12 ⟨v12, R3, c3, rfl, hK, hred3, hb12⟩; obtain ⟨rfl, rfl⟩ := hred3.2 HN.out.1; obtain ⟨a12, c12, rfl⟩ := hK.shape; have hs12 : Below w7.heap.size w7 w12 := Below.next (Nat.le_refl _) (by assumption) hb12)
            | fail)
        all_goals
          have HZ := Lib.hid (Below.next (Nat.le_refl _) HX.out.2 hs12)
          go_wp2
          go_ret
          exact ⟨rfl, HZ.out⟩
  · have HS := Lib.hid (decide_eq_false hs)
    clear hs
    go_enter Try.func11, Try.ntmps11
    go_upto_region 2 with (first
      | (go_at_call 16; refine (awake5_u _).mono ?_; rintro _ w1 ⟨rfl, hb1⟩)
      | (go_at_call 29; refine (kSmall_u _ M 80 _ (HM.out.1.hold hb1) hn HM.out.2 (by decide)).mono ?_; rintro e w2 ⟨rfl, rfl⟩; rw [HS.out]))
    have HB := Lib.hid hb1
    clear hb1
    go_wp2_with (go_at_call 16; refine (awake5_u _).mono ?_; rintro _ w3 ⟨rfl, hb3⟩)
    go_ret
    exact ⟨rfl, Below.next (Nat.le_refl _) HB.out hb3⟩
end Go.Proofs.Ytdcdaclkeocfpaa
