/- The walk of package transform's Multiply. The contracts of package transform's functions, as the laws want them. -/
import Derived.Test.YtnmbggdfcgbniaaTPG
namespace Go.Proofs.Ytnmbggdfcgbniaa
open Go.RowKit Go.BigFrame
open Classical

theorem errE_ok {p : Int} {a : List Int} {n : Int} (hk : known p = true) (hl : LenOk p n) (ha : a.length ≤ 8192) : errE p a 1 n = 0 := by
  have h1 : errD p 1 n = 0 := errD_ok hl (one_mod hk)
  rw [errE, if_pos h1, if_pos ha]
/-- The product out of the products of the values, element by element. -/
theorem mul_vals {p : Int} {n : Nat} {a b : List Int} (hk : known p = true) (hl : LenOk p n) (ha : a.length ≠ 0) (hb : b.length ≠ 0) (hn : a.length + b.length - 1 ≤ n) :
    intL p 1 (updK (fun i => ml p ((evL p a 1 n).getD i 0) ((evL p b 1 n).getD i 0)) (evL p a 1 n) 0 n) = mulL p a b ++ List.replicate (n - (a.length + b.length - 1)) 0 := by
  refine mul_by_values (errD_ok hl (one_mod hk)) ha hb hn (by rw [updK_len, evL_len]) fun k g => ?_
  rw [updK_len, evL_len] at g
  simp only [updK, List.getElem_map, List.getElem_range]
  rw [if_pos (by omega), getD_lt _ (by rw [evL_len]; exact g), getD_lt _ (by rw [evL_len]; exact g), ival_mul hk]
  simp only [evL, List.getElem_map, List.getElem_range, ph_ival hk]

set_option maxRecDepth 100000 in
set_option maxHeartbeats 8000000 in
theorem tMultiply_w (p : Int) [hU : U p] (va vb : Value) (a b : List Int) (w : World) (hla : Lst w va a) (hlb : Lst w vb b) (hna : a.length ≤ 1000) (hnb : b.length ≤ 1000) :
    Calls Try.prog 26 #[.agg #[.int .u64 p], va, vb] w (Pair w (resM p a b) (errM p a b)) := by
  obtain ⟨a0, c0, rfl⟩ := hla.shape
  obtain ⟨b0, d0, rfl⟩ := hlb.shape
  have HL := Lib.hid (And.intro hla hlb)
  clear hla hlb
  by_cases hk : known p = true
  · by_cases hz : a.length = 0 ∨ b.length = 0
    · have h1 : errM p a b = 0 := by rw [errM, if_pos hk, if_pos (by omega)]
      have h2 : resM p a b = [] := by rw [resM, if_neg (by omega)]
      rw [h1, h2]
      have HK := Lib.hid hk
      clear h1 h2 hk
      by_cases ha : a.length = 0
      · have i1 : (a.length : Int) = 0 := by omega
        have i2 : ((a.length : Int) == 0) = true := by simpa using i1
        go_enter Try.func26, Try.ntmps26
        go_wp2_with (go_at_call 37; refine (valid_any _ _).mono ?_; rintro e w1 ⟨rfl, hb1⟩; rw [HK.out])
        refine bodyPost_ret (results_tmp2 rfl _ _ _) rfl ?_
        exact ⟨_, rfl, Own.nil _ _, Below.next (Nat.le_refl _) (Below.made (Nat.le_refl _) (Below.refl _ _) _) hb1.b⟩
      · have i1 : ¬ (a.length : Int) = 0 := by omega
        have i2 : ((a.length : Int) == 0) = false := by simpa using i1
        have i3 : (b.length : Int) = 0 := by omega
        have i4 : ((b.length : Int) == 0) = true := by simpa using i3
        go_enter Try.func26, Try.ntmps26
        go_wp2_with (go_at_call 37; refine (valid_any _ _).mono ?_; rintro e w1 ⟨rfl, hb1⟩; rw [HK.out])
        refine bodyPost_ret (results_tmp2 rfl _ _ _) rfl ?_
        exact ⟨_, rfl, Own.nil _ _, Below.next (Nat.le_refl _) (Below.made (Nat.le_refl _) (Below.refl _ _) _) hb1.b⟩
    · have ha : a.length ≠ 0 := fun h => hz (.inl h)
      have hb : b.length ≠ 0 := fun h => hz (.inr h)
      obtain ⟨l, hl⟩ : ∃ l, l = a.length + b.length - 1 := ⟨_, rfl⟩
      have i1 : ¬ (a.length : Int) = 0 := by omega
      have i2 : ((a.length : Int) == 0) = false := by simpa using i1
      have i3 : ¬ (b.length : Int) = 0 := by omega
      have i4 : ((b.length : Int) == 0) = false := by simpa using i3
      have i5 : (a.length : Int) + (b.length : Int) - 1 = (l : Int) := by omega
      have i6 : (a.length : Int) ≤ 1000 := by omega
      have i7 : (b.length : Int) ≤ 1000 := by omega
      have i8 : (1 : Int) ≤ (l : Int) := by omega
      have i9 : (l : Int) ≤ 2000 := by omega
      obtain ⟨n, hn⟩ : ∃ n, n = fitsN l := ⟨_, rfl⟩
      have hnl : l ≤ n := by rw [hn]; exact fits_le l
      have hn16 : n ≤ 65536 := by
        rw [hn, ← fits_len (by omega) (by omega)]
        have h := Nat.pow_le_pow_right (n := 2) (by decide) (bitLen_16 (x := l - 1) (by omega))
        simpa using h
      have i10 : (1 : Int) ≤ (n : Int) := by omega
      have i11 : (n : Int) ≤ 65536 := by omega
      by_cases hlen : LenOk p n
      · have h1 : errM p a b = 0 := by rw [errM, if_pos hk, if_pos (.inr (.inr (by rw [← hl, ← hn]; exact hlen)))]
        have h2 : resM p a b = mulL p a b := by rw [resM, if_pos ⟨h1, ha, hb⟩]
        have ea : errE p a 1 n = 0 := errE_ok hk hlen (by omega)
        have eb : errE p b 1 n = 0 := errE_ok hk hlen (by omega)
        have ra : resE p a 1 n = evL p a 1 n := by rw [resE, if_pos ea]
        have rb : resE p b 1 n = evL p b 1 n := by rw [resE, if_pos eb]
        have hmv := mul_vals hk hlen ha hb (by rw [← hl]; exact hnl)
        rw [h1, h2]
        have HK := Lib.hid (And.intro hk (And.intro hn (And.intro ea (And.intro eb (And.intro ra (And.intro rb (And.intro hmv (And.intro hlen hl))))))))
        clear h1 h2 hk hn ea eb ra rb hmv hlen hl ha hb hz
        go_enter Try.func26, Try.ntmps26
        go_upto_region 3 with (go_at_call 37; refine (valid_any _ _).mono ?_; rintro e w1 ⟨rfl, hb1⟩; rw [HK.out.1]; have hf : w1.cell? ⟨w.heap.size, 0, none⟩ = some (.int .u64 p) := hb1.hold (by go_simp))
        have HB := Lib.hid (Below.next (Nat.le_refl _) (Below.made (Nat.le_refl _) (Below.refl _ _) _) hb1.b)
        clear hb1
        go_upto_region 7 with (go_at_call 38; refine (power_u l (by omega) (by omega) _).mono ?_; rintro e w2 ⟨rfl, hb2⟩; rw [← HK.out.2.1]; have hf2 := hb2.hold hf)
        replace HB := Lib.hid (Below.next (Nat.le_refl _) HB.out hb2.b)
        have hbw : w.heap.size < w2.heap.size := World.block_lt_of_cell? _ _ hf2
        have HBs := Lib.hid HB.out.size
        clear hb2 hf
        go_upto_region 10 with (go_at_call 19; refine (tEvaluate_w p 1 n _ a _ (HL.out.1.hold HB.out) (by omega) (by omega) (by omega)).mono ?_; rintro _ w3 ⟨v3, rfl, hown3, hb3⟩; rw [HK.out.2.2.1]; rw [HK.out.2.2.2.2.1] at hown3; have hf3 := Below.hold hb3 hf2)
        replace HB := Lib.hid (Below.next (Nat.le_refl _) HB.out hb3)
        have HO3 := Lib.hid hown3
        clear hb3 hf2 hown3
        go_upto_region 11 with (go_at_call 19; refine (tEvaluate_w p 1 n _ b _ (HL.out.2.hold HB.out) (by omega) (by omega) (by omega)).mono ?_; rintro _ w4 ⟨v4, rfl, hown4, hb4⟩; rw [HK.out.2.2.2.1]; rw [HK.out.2.2.2.2.2.1] at hown4; have hf4 := Below.hold hb4 hf3)
        replace HB := Lib.hid (Below.next (Nat.le_refl _) HB.out hb4)
        have h3 := HO3.out.hold hb4
        obtain ⟨EA, hEA⟩ : ∃ E, E = evL p a 1 n := ⟨_, rfl⟩
        obtain ⟨EB, hEB⟩ : ∃ E, E = evL p b 1 n := ⟨_, rfl⟩
        have hla : EA.length = n := by rw [hEA, evL_len]
        have hlb : EB.length = n := by rw [hEB, evL_len]
        rw [← hEA] at h3
        rw [← hEB] at hown4
        obtain ⟨g3, c3, rfl⟩ : ∃ g c, v3 = .slice (some ⟨g, 0, none⟩) n c := by
          rcases h3.cases with ⟨_, e⟩ | ⟨g, c, e, _⟩
          · rw [e] at hla; simp at hla; omega
          · rw [hla] at e; exact ⟨g, c, e⟩
        obtain ⟨g4, c4, rfl⟩ : ∃ g c, v4 = .slice (some ⟨g, 0, none⟩) n c := by
          rcases hown4.cases with ⟨_, e⟩ | ⟨g, c, e, _⟩
          · rw [e] at hlb; simp at hlb; omega
          · rw [hlb] at e; exact ⟨g, c, e⟩
        have hg3 := HO3.out.row.lt g3 rfl
        have hg4 := (hown4.row.lt g4 rfl).1
        obtain ⟨F, hF⟩ : ∃ F : Nat → Int, F = fun i => ml p (EA.getD i 0) (EB.getD i 0) := ⟨_, rfl⟩
        have hmv := HK.out.2.2.2.2.2.2.1
        rw [← hEA, ← hEB, ← hF] at hmv
        have HE := Lib.hid (And.intro hmv (And.intro hF (And.intro hla hlb)))
        have HO := Lib.hid (And.intro h3 (And.intro hown4.lst hf4))
        have HG := Lib.hid (show g4 ≠ g3 by omega)
        have HG3 := Lib.hid (show g3 ≠ w.heap.size by omega)
        clear hmv hF hla hlb h3 hown4 hf4 hEA hEB hf3 hg3 hg4 HO3 hb4
        go_wp2
        go_loopw [55] (fun iv wr => ∃ k : Nat, iv = .int .i64 k ∧ k ≤ n ∧ Own wr w2.heap.size (.slice (some ⟨g3, 0, none⟩) n c3) (updK F EA 0 k) ∧ w4.grownBy wr (some g3)) (fun iv _ => n - (intOf iv).toNat)
        case atStart => exact ⟨0, rfl, Nat.zero_le _, by rw [updK_zero]; exact HO.out.1, World.grownBy.refl _ _⟩
        case round =>
          obtain ⟨k, rfl, hk, hown, hgr⟩ := hrel
          have i0 : (0 : Int) ≤ (k : Int) := by omega
          have hp := grown_cell hgr HO.out.2.2 (by intro e; cases e; exact HG3.out rfl)
          by_cases hlt : k < n
          · have hkA : k < EA.length := by rw [HE.out.2.2.1]; exact hlt
            have hkB : k < EB.length := by rw [HE.out.2.2.2]; exact hlt
            have hc1 : wr.cell? ⟨g3, k, none⟩ = some (.int .u64 EA[k]) := by rw [hown.cell (by rw [updK_len]; exact hkA), updK_at0 hkA]
            obtain ⟨b1, o1, d1, e1, hc2⟩ := (HO.out.2.1.kept hgr (by intro _ e; cases e; exact HG.out rfl)).cells k hkB
            rw [HE.out.2.2.2] at e1
            obtain ⟨⟨rfl, rfl⟩, rfl⟩ : (g4 = b1 ∧ 0 = o1) ∧ c4 = d1 := by simp at e1; exact e1
            clear e1
            have hz := hown.thawed k
            have hux := HO.out.1.us EA[k] (List.getElem_mem hkA)
            have huy := HO.out.2.1.us EB[k] (List.getElem_mem hkB)
            have hset := updK_set0 (f := F) (L := EA) (k := k)
            have hFk : F k = ml p EA[k] EB[k] := by rw [HE.out.2.1]; simp only []; rw [getD_lt _ hkA, getD_lt _ hkB]
            rw [hFk] at hset
            obtain ⟨x, hx⟩ : ∃ x, x = EA[k] := ⟨_, rfl⟩
            obtain ⟨y, hy⟩ : ∃ y, y = EB[k] := ⟨_, rfl⟩
            rw [← hx] at hux hc1 hset
            rw [← hy] at huy hc2 hset
            rw [Nat.zero_add] at hc2
            have j1 : (k : Int) < (n : Int) := by omega
            have HV := Lib.hid (And.intro hown (And.intro hgr hset))
            clear hown hgr hset hx hy hFk hkA hkB hlt
            go_wp2_with fail
            have k0 := fun q : NwAt wr => q.nw.hold hp
            have k1 := fun q : NwAt wr => q.nw.hold hc1
            have k3 := fun q : NwAt wr => q.nw.holdf hz
            refine from_here ?_
            intro q
            refine wp_region_nwt 9 (by kernel_rfl) (by kernel_rfl) ?_
            simp only [List.take_succ_cons, List.take_zero, List.drop_succ_cons, List.drop_zero]
            repeat (go_big_quiet_step ((first | (go_at_call 31; exact nwAt_of (fMul_u _ _ _ _)))))
            refine wpQuiet_nil ?_
            clear q
            rintro _ ⟨q, rfl⟩
            have m1 := k1 q
            have m3 := k3 q
            clear k0 k1 k3
            have hs := (HV.out.1.hold q.nw.b).set k (ml p x y)
            have HS := Lib.hid (And.intro hs.1 (grown_trans (grown_next HV.out.2.1 q.nw.b) hs.2))
            clear hs
            go_wp2
            exact ⟨⟨k + 1, by go_num, by omega, by rw [← HV.out.2.2]; exact HS.out.1, HS.out.2⟩, by simp [intOf]; omega⟩
          · obtain rfl : k = n := by omega
            obtain ⟨V, hV⟩ : ∃ V, V = updK F EA 0 k := ⟨_, rfl⟩
            have hVl : V.length = k := by rw [hV, updK_len, HE.out.2.2.1]
            have hVi := HE.out.1
            rw [← hV] at hown hVi
            have hml : (mulL p a b).length = l := by rw [mulL_len]; exact HK.out.2.2.2.2.2.2.2.2.symm
            have eD : errD p 1 V.length = 0 := by rw [hVl]; exact errD_ok HK.out.2.2.2.2.2.2.2.1 (one_mod HK.out.1)
            have eR : resI p 1 V = mulL p a b ++ List.replicate (k - (a.length + b.length - 1)) 0 := by rw [resI, if_pos eD, hVi]
            have hBw := Below.wrote HB.out HBs.out HB.out.size HO.out.1 hgr
            have HV := Lib.hid (And.intro hown (And.intro hBw (And.intro eD (And.intro eR (And.intro hVl hml)))))
            clear hown hgr hV hVi eD eR hBw hVl hml
            go_upto_region 17 with (go_at_call 13; refine (tInverse_w p _ V _ HV.out.1.lst (by have := HV.out.2.2.2.2.1; omega)).mono ?_; rintro _ w5 ⟨v5, rfl, hown5, hb5⟩; rw [HV.out.2.2.1]; rw [HV.out.2.2.2.1] at hown5)
            obtain ⟨g5, c5, rfl, hlc⟩ : ∃ g c, v5 = .slice (some ⟨g, 0, none⟩) (mulL p a b ++ List.replicate (k - (a.length + b.length - 1)) 0).length c ∧ (mulL p a b ++ List.replicate (k - (a.length + b.length - 1)) 0).length ≤ c := by
              rcases hown5.cases with ⟨_, e⟩ | ⟨g, c, e, _, _, hc, _⟩
              · have h := congrArg List.length e
                rw [List.length_append, HV.out.2.2.2.2.2] at h
                simp at h; omega
              · exact ⟨g, c, e, hc⟩
            have ht := hown5.take (k := l) (by rw [List.length_append, HV.out.2.2.2.2.2]; omega)
            rw [List.take_left' HV.out.2.2.2.2.2] at ht
            have hl5 : l ≤ (mulL p a b ++ List.replicate (k - (a.length + b.length - 1)) 0).length := by rw [List.length_append, HV.out.2.2.2.2.2]; omega
            have i12 : (l : Int) ≤ (c5 : Int) := by omega
            have i13 : (0 : Int) ≤ (l : Int) := by omega
            obtain ⟨m5, hm5⟩ : ∃ m5, m5 = (mulL p a b ++ List.replicate (k - (a.length + b.length - 1)) 0).length := ⟨_, rfl⟩
            rw [← hm5] at hlc hl5 ⊢
            have HT := Lib.hid (And.intro ht hb5)
            clear ht hb5 hown5 hm5
            go_wp2
            refine bodyPost_ret (results_tmp2 rfl _ _ _) rfl ?_
            exact ⟨_, rfl, HT.out.1.low HV.out.2.1.size, Below.next (Nat.le_refl _) HV.out.2.1 HT.out.2⟩
      · have h1 : errM p a b = 3 := by rw [errM, if_pos hk, if_neg (by rw [← hl, ← hn]; intro h; rcases h with h | h | h; exact ha h; exact hb h; exact hlen h)]
        have h2 : resM p a b = [] := by rw [resM, if_neg (by rw [h1]; omega)]
        have e1 : errE p a 1 n = 1 := by
          have : errD p 1 n = 1 := by rw [errD, if_pos hk, if_neg (fun h => hlen h.1)]
          rw [errE, if_neg (by rw [this]; decide), this]
        rw [h1, h2]
        have HK := Lib.hid (And.intro hk (And.intro hn e1))
        clear h1 h2 hk hn e1 hlen hl ha hb hz
        go_enter Try.func26, Try.ntmps26
        go_upto_region 3 with (go_at_call 37; refine (valid_any _ _).mono ?_; rintro e w1 ⟨rfl, hb1⟩; rw [HK.out.1]; have hf : w1.cell? ⟨w.heap.size, 0, none⟩ = some (.int .u64 p) := hb1.hold (by go_simp))
        have HB := Lib.hid (Below.next (Nat.le_refl _) (Below.made (Nat.le_refl _) (Below.refl _ _) _) hb1.b)
        clear hb1
        go_upto_region 7 with (go_at_call 38; refine (power_u l (by omega) (by omega) _).mono ?_; rintro e w2 ⟨rfl, hb2⟩; rw [← HK.out.2.1]; have hf2 := hb2.hold hf)
        replace HB := Lib.hid (Below.next (Nat.le_refl _) HB.out hb2.b)
        clear hb2
        go_wp2_with (go_at_call 19; refine (tEvaluate_w p 1 n _ a _ (HL.out.1.hold HB.out) (by omega) (by omega) (by omega)).mono ?_; rintro _ w3 ⟨v3, rfl, hown3, hb3⟩; rw [HK.out.2.2])
        refine bodyPost_ret (results_tmp2 rfl _ _ _) rfl ?_
        exact ⟨_, rfl, Own.nil _ _, Below.next (Nat.le_refl _) HB.out hb3⟩
  · have hk : known p = false := by simpa using hk
    have h1 : errM p a b = 7 := by rw [errM, if_neg (by rw [hk]; decide)]
    have h2 : resM p a b = [] := by rw [resM, if_neg (by rw [h1]; omega)]
    rw [h1, h2]
    have HK := Lib.hid hk
    clear h1 h2 hk
    go_enter Try.func26, Try.ntmps26
    go_wp2_with (go_at_call 37; refine (valid_any _ _).mono ?_; rintro e w1 ⟨rfl, hb1⟩; rw [HK.out])
    refine bodyPost_ret (results_tmp2 rfl _ _ _) rfl ?_
    exact ⟨_, rfl, Own.nil _ _, Below.next (Nat.le_refl _) (Below.made (Nat.le_refl _) (Below.refl _ _) _) hb1.b⟩
end Go.Proofs.Ytnmbggdfcgbniaa

namespace Go.Proofs.Ytnmbggdfcgbniaa
open Go.RowKit
open Classical

theorem tDomain_p (p s n : Int) [_hU : U p] [hU : U s] (hn0 : -9223372036854775808 ≤ n) (hn1 : n ≤ 9223372036854775807) (w : World) :
    Calls Try.prog 16 #[.agg #[.int .u64 p], .int .u64 s, .int .i64 n] w (PairL w (resD p s n) (errD p s n)) :=
  (tDomain_w p s n hn0 hn1 w).mono pairL_of

theorem tEvaluate_p (p s n : Int) [_hU : U p] [hU : U s] (va : Value) (a : List Int) (w : World) (hla : Lst w va a) (hna : a.length ≤ 9000) (hn0 : -9223372036854775808 ≤ n) (hn1 : n ≤ 9223372036854775807) :
    Calls Try.prog 19 #[.agg #[.int .u64 p], va, .int .u64 s, .int .i64 n] w (PairL w (resE p a s n) (errE p a s n)) :=
  (tEvaluate_w p s n va a w hla (by omega) hn0 hn1).mono pairL_of

theorem tForward_p (p : Int) [_hU : U p] (va : Value) (a : List Int) (w : World) (hla : Lst w va a) (hna : a.length ≤ 9000) :
    Calls Try.prog 11 #[.agg #[.int .u64 p], va] w (PairL w (resE p a 1 a.length) (errE p a 1 a.length)) :=
  (tForward_w p va a w hla (by omega)).mono pairL_of

theorem tInterpolate_p (p s : Int) [hU : U p] [hs : U s] (va : Value) (a : List Int) (w : World) (hla : Lst w va a) (hna : a.length ≤ 9000) :
    Calls Try.prog 20 #[.agg #[.int .u64 p], va, .int .u64 s] w (PairL w (resI p s a) (errD p s a.length)) :=
  (tInterpolate_w p s va a w hla (by omega)).mono pairL_of

theorem tInverse_p (p : Int) [hU : U p] (va : Value) (a : List Int) (w : World) (hla : Lst w va a) (hna : a.length ≤ 9000) :
    Calls Try.prog 13 #[.agg #[.int .u64 p], va] w (PairL w (resI p 1 a) (errD p 1 a.length)) :=
  (tInverse_w p va a w hla (by omega)).mono pairL_of

theorem tMultiply_p (p : Int) [hU : U p] (va vb : Value) (a b : List Int) (w : World) (hla : Lst w va a) (hlb : Lst w vb b) (hna : a.length ≤ 1000) (hnb : b.length ≤ 1000) :
    Calls Try.prog 26 #[.agg #[.int .u64 p], va, vb] w (PairL w (resM p a b) (errM p a b)) :=
  (tMultiply_w p va vb a b w hla hlb hna hnb).mono pairL_of
end Go.Proofs.Ytnmbggdfcgbniaa
