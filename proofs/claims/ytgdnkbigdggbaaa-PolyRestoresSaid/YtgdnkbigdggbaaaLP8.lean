/- The walk of the statement on interpolation. -/
import Derived.Test.YtgdnkbigdggbaaaLP7
namespace Go.Proofs.Ytgdnkbigdggbaaa
open Go.RowKit Go.BigFrame

theorem lag_same {p : Int} (hk : known p = true) {xs ys : List Int} (hd : diffB p xs = true) {F G : Nat → Fin (Q p)} (h : Lag p xs ys xs.length F) (h' : Lag p xs ys xs.length G) : F = G := by
  refine Po.interp_unique (fld hk) (diff_nodup hk hd) (by rw [List.length_map]; exact h.deg) (by rw [List.length_map]; exact h'.deg) fun z hz => ?_
  obtain ⟨x, hx, rfl⟩ := List.mem_map.1 hz
  obtain ⟨j, hj, rfl⟩ := List.getElem_of_mem hx
  rw [List.length_map, h.hit j hj hj, h'.hit j hj hj]
theorem lag_val {p : Int} (hk : known p = true) {xs ys r : List Int} {F : Nat → Fin (Q p)} (h : Lag p xs ys xs.length F) (hi : Is p r F) {k : Nat} (hx : k < xs.length) (hy : k < ys.length) :
    ival p (Po.ev (pf p r) (ph p xs[k]) r.length) = rd p ys[k] := by
  refine (ival_of (fun _ => ⟨?_, ?_⟩) fun h0 => by rw [hk] at h0; cases h0).symm
  · rw [rd, if_pos hk]
    have := known_lo hk
    exact ⟨Int.emod_nonneg _ (by omega), Int.emod_lt_of_pos _ (by omega)⟩
  · rw [ph_rd hk, ev_long hk hi h.deg, h.hit k hx hx, getD_lt _ hy]

set_option maxRecDepth 100000 in
set_option maxHeartbeats 16000000 in
theorem law_pinter (p : Int) [hU : U p] (va0 vb0 : Value) (xs ys : List Int) (w : World) (hla0 : Lst w va0 xs) (hlb0 : Lst w vb0 ys) :
    Calls Try.prog 9 #[.int .u64 p, va0, vb0] w fun e w' => e = .returned (.bool true) ∧ Below w.heap.size w w' := by
  obtain ⟨a0, c0, rfl⟩ := hla0.shape
  obtain ⟨a1, c1, rfl⟩ := hlb0.shape
  have HL := Lib.hid hla0
  have HM := Lib.hid hlb0
  clear hla0 hlb0
  by_cases hs : xs.length ≤ 12
  · have hd : ¬ (12 : Int) < (xs.length : Int) := by omega
    by_cases ht : ys.length ≤ 12
    · have hd2 : ¬ (12 : Int) < (ys.length : Int) := by omega
      go_enter Try.func9, Try.ntmps9
      go_upto_region 4 with (first | (go_at_call 12; refine (awake3_u _).mono ?_; rintro _ w1 ⟨rfl, hb1⟩))
      refine name_world ?_
      intro W hW
      have hb : Below w.heap.size w W := by rw [hW]; exact Below.made (Nat.le_refl _) hb1 _
      have hf : W.cell? ⟨w1.heap.size, 0, none⟩ = some (.int .u64 p) := by rw [hW]; go_simp
      have HB := Lib.hid hb
      clear hW hb hb1
      go_wp2_with fail
      refine (oInterpolate_p p _ _ xs ys _ (HL.out.hold HB.out) (HM.out.hold HB.out) (by omega) (by omega)).mono ?_
      rintro _ wa ⟨v1, r1, er, rfl, hl1, hba, hcase⟩
      replace HB := Lib.hid (Below.next (Nat.le_refl _) HB.out hba)
      rcases hcase with ⟨hk, rfl, rfl⟩ | ⟨hk, hz, rfl, rfl⟩ | ⟨hk, hlen, hdf, rfl, F, hi, hlag⟩
      · obtain ⟨a2, c2, rfl⟩ : ∃ a c, v1 = .slice a 0 c := hl1.shape
        have HK := Lib.hid hk
        clear hba hl1 hk hf
        go_wp2_with fail
        refine (rValid_any _ _).mono ?_
        rintro e w2 ⟨rfl, hb2⟩
        rw [HK.out]
        have HB2 := Lib.hid (Below.next (Nat.le_refl _) HB.out hb2.b)
        clear hb2
        go_wp2
        go_ret
        exact ⟨rfl, HB2.out⟩
      · obtain ⟨a2, c2, rfl⟩ : ∃ a c, v1 = .slice a 0 c := hl1.shape
        have HK := Lib.hid (And.intro hk hz)
        clear hba hl1 hk hf hz
        go_wp2_with fail
        refine (rValid_any _ _).mono ?_
        rintro e w2 ⟨rfl, hb2⟩
        rw [HK.out.1]
        have HB2 := Lib.hid (Below.next (Nat.le_refl _) HB.out hb2.b)
        clear hb2
        by_cases hne : xs.length = ys.length
        · have hni : (xs.length : Int) = (ys.length : Int) := by omega
          have hdf : diffB p xs = false := HK.out.2.elim (fun h => absurd hne h) id
          have HF := Lib.hid hdf
          clear hne hdf
          go_wp2_with fail
          refine (sDifferent_u p _ xs _ (HL.out.hold HB2.out) (by omega)).mono ?_
          rintro _ w3 ⟨rfl, hb3⟩
          rw [HF.out]
          have HB3 := Lib.hid (Below.next (Nat.le_refl _) HB2.out hb3)
          clear hb3
          go_wp2
          go_ret
          exact ⟨rfl, HB3.out⟩
        · have hni : ¬ (xs.length : Int) = (ys.length : Int) := by omega
          clear hne
          go_wp2
          go_ret
          exact ⟨rfl, HB2.out⟩
      · obtain ⟨a2, c2, rfl⟩ := hl1.shape
        have hn1 : r1.length ≤ xs.length := hi.bound fun _ => hlag.deg
        have hni : (xs.length : Int) = (ys.length : Int) := by omega
        have HK := Lib.hid (And.intro hk hdf)
        have HQ := Lib.hid hl1
        have HI := Lib.hid (And.intro hi hlag)
        have HN := Lib.hid hlen
        clear hba hl1 hk hf hdf hi hlag hlen
        go_wp2_with fail
        refine (rValid_any _ _).mono ?_
        rintro e w2 ⟨rfl, hb2⟩
        rw [HK.out.1]
        replace HB := Lib.hid (Below.next (Nat.le_refl _) HB.out hb2.b)
        replace HQ := Lib.hid (HQ.out.hold hb2.b)
        clear hb2
        go_wp2_with fail
        refine (sDifferent_u p _ xs _ (HL.out.hold HB.out) (by omega)).mono ?_
        rintro _ w3 ⟨rfl, hb3⟩
        rw [HK.out.2]
        replace HB := Lib.hid (Below.next (Nat.le_refl _) HB.out hb3)
        replace HQ := Lib.hid (HQ.out.hold hb3)
        replace HL := Lib.hid (HL.out.hold HB.out)
        replace HM := Lib.hid (HM.out.hold HB.out)
        clear hb3
        go_wp2
        go_loopw [65] (fun iv wr => ∃ k : Nat, iv = .int .i64 k ∧ k ≤ xs.length ∧ Below w3.heap.size w3 wr) (fun iv _ => xs.length - (intOf iv).toNat)
        case atStart => exact ⟨0, rfl, Nat.zero_le _, Below.refl _ _⟩
        case round =>
          obtain ⟨k, rfl, hk, hb⟩ := hrel
          have HR := Lib.hid hb
          clear hb
          have i0 : (0 : Int) ≤ (k : Int) := by omega
          by_cases hlt : k < xs.length
          · have hlt2 : k < ys.length := by have := HN.out; omega
            obtain ⟨bx, ox, cx, e1, g1⟩ := (HL.out.hold HR.out).cells k hlt
            obtain ⟨by_, oy, cy, e2, g2⟩ := (HM.out.hold HR.out).cells k hlt2
            obtain ⟨rfl, rfl⟩ : a0 = some ⟨bx, ox, none⟩ ∧ c0 = cx := by simp at e1; exact e1
            obtain ⟨rfl, rfl⟩ : a1 = some ⟨by_, oy, none⟩ ∧ c1 = cy := by simp at e2; exact e2
            have hu1 := HL.out.us xs[k] (List.getElem_mem _)
            have hu2 := HM.out.us ys[k] (List.getElem_mem _)
            have i1 : (k : Int) < (xs.length : Int) := by omega
            have i2 : (k : Int) < (ys.length : Int) := by omega
            have HV := Lib.hid (lag_val HK.out.1 HI.out.2 HI.out.1 hlt hlt2)
            go_upto_region 12 with fail
            rename World => wr
            have m1 := fun q : BwAt wr => Below.hold q.bw g1
            have m2 := fun q : BwAt wr => Below.hold q.bw g2
            have HE := Lib.hid (fun q : BwAt wr => (HQ.out.hold HR.out).hold q.bw)
            clear g1 g2
            refine from_now ?_
            intro q
            refine wp_region_bw (by kernel_rfl) (by kernel_rfl) ?_
            repeat (go_big_quiet_step ((first | (go_at_call 28; exact bwAt_of (sEval_u _ _ _ r1 _ (HE.out _) (by omega))) | (go_at_call 38; exact bwAt_nw (rReduce_u _ _ _)))))
            refine wpQuiet_nil ?_
            clear q
            rintro _ ⟨q, rfl⟩
            rw [HV.out]
            have HRq := Lib.hid (Below.next (Nat.le_refl _) HR.out q.bw)
            clear m1 m2
            go_wp2
            exact ⟨⟨k + 1, by go_num, by omega, HRq.out⟩, by simp [intOf]; omega⟩
          · obtain rfl : k = xs.length := by omega
            have hle : (r1.length : Int) ≤ (xs.length : Int) := by omega
            replace HB := Lib.hid (Below.next (Nat.le_refl _) HB.out HR.out)
            replace HQ := Lib.hid (HQ.out.hold HR.out)
            go_wp2_with fail
            refine (sInterpolate_p p HK.out.1 _ _ xs ys _ (HL.out.hold HR.out) (HM.out.hold HR.out) HN.out (by omega) HK.out.2).mono ?_
            rintro _ w5 ⟨v5, r5, F5, rfl, hown5, hi5, hlag5, hb5⟩
            replace HB := Lib.hid (Below.next (Nat.le_refl _) HB.out hb5)
            have H5 := Lib.hid (And.intro (HQ.out.hold hb5) (And.intro hown5.lst (And.intro hi5 hlag5)))
            clear hb5 hown5 hi5 hlag5 HQ
            go_wp2_with fail
            refine (same3_p H5.out.1 H5.out.2.1 HI.out.1 H5.out.2.2.1 (fun hk => lag_same hk HK.out.2 HI.out.2 H5.out.2.2.2) (by omega)).mono ?_
            rintro _ w6 ⟨rfl, hb6⟩
            replace HB := Lib.hid (Below.next (Nat.le_refl _) HB.out hb6)
            clear hb6 H5
            go_wp2
            go_ret
            exact ⟨by simp, HB.out⟩
    · have hd2 : (12 : Int) < (ys.length : Int) := by omega
      go_enter Try.func9, Try.ntmps9
      go_upto_region 2 with (first | (go_at_call 12; refine (awake3_u _).mono ?_; rintro _ w1 ⟨rfl, hb1⟩) | (go_at_call 13; refine (few3_u _ _ _ _ (by omega)).mono ?_; rintro _ _ ⟨rfl, rfl⟩))
      have HB := Lib.hid hb1
      clear hb1
      go_wp2_with (first | (go_at_call 12; refine (awake3_u _).mono ?_; rintro _ w1 ⟨rfl, hb1⟩))
      go_ret
      exact ⟨rfl, Below.next (Nat.le_refl _) HB.out hb1⟩
  · have hd : (12 : Int) < (xs.length : Int) := by omega
    go_enter Try.func9, Try.ntmps9
    go_upto_region 2 with (first | (go_at_call 12; refine (awake3_u _).mono ?_; rintro _ w1 ⟨rfl, hb1⟩) | (go_at_call 13; refine (few3_u _ _ _ _ (by omega)).mono ?_; rintro _ _ ⟨rfl, rfl⟩))
    have HB := Lib.hid hb1
    clear hb1
    go_wp2_with (first | (go_at_call 12; refine (awake3_u _).mono ?_; rintro _ w1 ⟨rfl, hb1⟩))
    go_ret
    exact ⟨rfl, Below.next (Nat.le_refl _) HB.out hb1⟩
end Go.Proofs.Ytgdnkbigdggbaaa
