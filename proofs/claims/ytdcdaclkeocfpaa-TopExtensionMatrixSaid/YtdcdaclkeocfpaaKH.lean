/- The walks of the reference's Apply and Multiply (05). -/
import Derived.Test.YtdcdaclkeocfpaaKG
import Derived.Test.YtdcdaclkeocfpaaListB
namespace Go.Proofs.Ytdcdaclkeocfpaa
open Go.RowKit Go.BigFrame
open Classical

noncomputable def apL (p : Int) (M : List (List Int)) (V : List Int) : List Int := if OkM p M ∧ V.length = cols M then (List.range M.length).map fun i => ival p (Po.ap (cols M) (mf p M) (pf p V) i) else []
theorem dot_sm {p : Int} (hk : known p = true) (f g : Nat → Int) : ∀ k, dotTo p f g k = ival p (Po.sm (fun j => ph p (f j) * ph p (g j)) k)
  | 0 => (ival_z hk).symm
  | k + 1 => by rw [dotTo, ad_ival hk, dot_sm hk f g k, ph_ival hk, ph_ml hk]; rfl
theorem Lst.rowOf {w : World} {v : Value} {l : List Int} (h : Lst w v l) (hl : l.length ≤ 200) : RowOf w v l.length fun i => l.getD i 0 :=
  ⟨hl, fun i => by
    by_cases hi : i < l.length
    · rw [getD_lt _ hi]; have := h.us _ (List.getElem_mem hi); exact ⟨this.lo, this.hi⟩
    · rw [getD_ge _ (by omega)]; omega, h.shape, fun i hi => by
    obtain ⟨b, o, c, e, hc⟩ := h.cells i hi
    exact ⟨b, o, c, e, by rw [getD_lt _ hi]; exact hc⟩⟩

set_option maxHeartbeats 4000000 in
theorem kApply_u (p : Int) [_hpU : U p] (v va : Value) (M : List (List Int)) (V : List Int) (w : World) (hM : MatR w v M) (hV : Lst w va V) (hn : M.length ≤ 100000) (hr : ∀ i (h : i < M.length), M[i].length ≤ 100000) (_hv : V.length ≤ 100000) :
    Calls Try.prog 28 #[.int .u64 p, v, va] w fun e w' => ∃ v1, e = .returned v1 ∧ Own w' w.heap.size v1 (apL p M V) ∧ Below w.heap.size w w' := by
  obtain ⟨a0, c0, rfl⟩ := hM.shape
  obtain ⟨a1, c1, rfl⟩ := hV.shape
  have HM := Lib.hid (And.intro hM (And.intro hV hr))
  clear hM hr hV
  by_cases hok : OkM p M
  · have hd : (known p && decide (Vld M)) = true := by rw [okM_dec, decide_eq_true hok]
    have h64 := hok.2.2
    have hc64 := hok.2.cols
    by_cases hl : V.length = cols M
    · have hres : apL p M V = (List.range M.length).map fun i => ival p (Po.ap (cols M) (mf p M) (pf p V) i) := by unfold apL; rw [if_pos ⟨hok, hl⟩]
      have hne : ((V.length : Int) != (cols M : Int)) = false := by rw [hl]; simp
      have i1 : (M.length : Int) ≤ 64 := by omega
      obtain ⟨L, hL⟩ : ∃ L, L = apL p M V := ⟨_, rfl⟩
      have hLl : L.length = M.length := by rw [hL, hres]; simp
      have hLi : ∀ i (h : i < L.length), L[i] = ival p (Po.ap (cols M) (mf p M) (pf p V) i) := fun i h => by
        subst hL
        simp only [hres, List.getElem_map, List.getElem_range]
      rw [← hL]
      have HK := Lib.hid (And.intro hok (And.intro hd (And.intro hl (And.intro hLl hLi))))
      clear hok hd hl hres hL hLl hLi
      go_enter Try.func28, Try.ntmps28
      go_upto_region 3 with (first
        | (go_at_call 64; refine (kok_u p _ M _ HM.out.1 hn HM.out.2.2).mono ?_; rintro e w1 ⟨rfl, hb1⟩; rw [HK.out.2.1])
        | (go_at_call 41; refine (kColumns_u _ M _ (HM.out.1.hold hb1.b) hn).mono ?_; rintro e w2 ⟨rfl, rfl⟩))
      have HB := Lib.hid hb1.b
      clear hb1
      go_wp2
      go_loopw [7, 8] (fun ov iv wr => ∃ i : Nat, iv = .int .i64 i ∧ i ≤ M.length ∧ Own wr w.heap.size ov (L.take i) ∧ Below w.heap.size w wr) (fun _ iv _ => M.length - (intOf iv).toNat)
      case atStart => exact ⟨0, rfl, Nat.zero_le _, empty_own _ _ HB.out.size, Below.next (Nat.le_refl _) HB.out (Below.made (Nat.le_refl _) (Below.refl _ _) _)⟩
      case round =>
        obtain ⟨i, rfl, hi, hown, hb⟩ := hrel
        have i0 : (0 : Int) ≤ (i : Int) := by omega
        by_cases hlt : i < M.length
        · obtain ⟨b, o, c, rv, e, hc, hlr⟩ := (HM.out.1.hold hb).rows i hlt
          obtain ⟨rfl, rfl⟩ : a0 = some ⟨b, o, none⟩ ∧ c0 = c := by simp at e; exact e
          have hlM := HK.out.2.2.2.1
          have htk : L.take (i + 1) = L.take i ++ [dotTo p (fun j => M[i].getD j 0) (fun j => V.getD j 0) (min M[i].length V.length)] := by
            rw [List.take_succ_eq_append_getElem (by omega), HK.out.2.2.2.2 i (by omega), dot_sm HK.out.1.1]
            have h1 := (HK.out.1.2.1 i hlt).1
            have h2 := HK.out.2.2.1
            rw [h1, h2, Nat.min_self]
            congr 3
            exact Po.sm_congr fun j hj => by rw [mf_row hlt]; rfl
          have hr1 := hlr.rowOf (by have := (HK.out.1.2.1 i hlt).2; omega)
          have hr2 := (HM.out.2.1.hold hb).rowOf (by have := HK.out.2.2.1; omega)
          obtain ⟨X, hX⟩ : ∃ X, X = M[i] := ⟨_, rfl⟩
          rw [← hX] at htk hr1 hlr
          have i2 : (i : Int) < (M.length : Int) := by omega
          have hdU : U (dotTo p (fun j => X.getD j 0) (fun j => V.getD j 0) (min X.length V.length)) := ⟨dotTo_lo _ _ _ _, by have := dotTo_hi p (fun j => X.getD j 0) (fun j => V.getD j 0) (min X.length V.length); omega⟩
          have hli : (L.take i).length ≤ 1000000 := by rw [List.length_take]; omega
          have HW := Lib.hid (And.intro hown (And.intro hb (And.intro htk (And.intro hr1 (And.intro hr2 hli)))))
          clear hown hb htk hr1 hr2 hX hlr e hlt hli hlM
          go_wp2_with (first
            | (go_at_call 70; refine (rDot_any p _ _ _ _ _ _ _ HW.out.2.2.2.1 HW.out.2.2.2.2.1).mono ?_; rintro _ w3 ⟨rfl, hb3⟩)
            | (at_builtin; refine append_one rfl (.tmp 27) (.tmp 35) rfl w.heap.size u7 _ rfl (HW.out.1.hold hb3.b) _ hdU rfl HW.out.2.2.2.2.2 (Nat.le_trans HW.out.2.1.size hb3.b.size) ?_; intro v' w' hown' hb'))
          have htk : L.take (i + 1) = L.take i ++ [dotTo p (fun j => X[j]?.getD 0) (fun j => V[j]?.getD 0) (min X.length V.length)] := HW.out.2.2.1
          exact ⟨⟨i + 1, by go_num, by omega, by rw [htk]; exact hown', Below.trans (Below.next (Nat.le_refl _) HW.out.2.1 hb3.b) hb'⟩, by simp [intOf]; omega⟩
        · obtain rfl : M.length = i := by omega
          rw [List.take_of_length_le (by have := HK.out.2.2.2.1; omega)] at hown
          have HW := Lib.hid (And.intro hown hb)
          clear hown hb
          go_wp2
          go_ret
          exact ⟨_, rfl, HW.out.1, HW.out.2⟩
    · have hres : apL p M V = [] := by unfold apL; rw [if_neg fun h => hl h.2]
      have hne : ((V.length : Int) != (cols M : Int)) = true := bne_iff_ne.2 (show (V.length : Int) ≠ (cols M : Int) by omega)
      rw [hres]
      have HK := Lib.hid hd
      clear hok hd hl hres
      go_enter Try.func28, Try.ntmps28
      go_wp2_with (first
        | (go_at_call 64; refine (kok_u p _ M _ HM.out.1 hn HM.out.2.2).mono ?_; rintro e w1 ⟨rfl, hb1⟩; rw [HK.out])
        | (go_at_call 41; refine (kColumns_u _ M _ (HM.out.1.hold hb1.b) hn).mono ?_; rintro e w2 ⟨rfl, rfl⟩))
      go_ret
      exact ⟨_, rfl, Own.nil _ _, hb1.b⟩
  · have hd : (known p && decide (Vld M)) = false := by rw [okM_dec, decide_eq_false hok]
    have hres : apL p M V = [] := by unfold apL; rw [if_neg fun h => hok h.1]
    rw [hres]
    have HK := Lib.hid hd
    clear hok hd hres
    go_enter Try.func28, Try.ntmps28
    go_wp2_with (go_at_call 64; refine (kok_u p _ M _ HM.out.1 hn HM.out.2.2).mono ?_; rintro e w1 ⟨rfl, hb1⟩; rw [HK.out])
    go_ret
    exact ⟨_, rfl, Own.nil _ _, hb1.b⟩

noncomputable def mulM (p : Int) (A B : List (List Int)) : List (List Int) := if OkM p A ∧ OkM p B ∧ B.length = cols A then (List.range A.length).map fun i => (List.range (cols B)).map fun j => ival p (Po.mul B.length (mf p A) (mf p B) i j) else []

set_option maxRecDepth 100000 in
set_option maxHeartbeats 16000000 in
theorem kMultiply_u (p : Int) [_hpU : U p] (va vb : Value) (A B : List (List Int)) (w : World) (hA : MatR w va A) (hB : MatR w vb B) (hn : A.length ≤ 100000) (hm : B.length ≤ 100000) (hra : ∀ i (h : i < A.length), A[i].length ≤ 100000) (hrb : ∀ i (h : i < B.length), B[i].length ≤ 100000) :
    Calls Try.prog 33 #[.int .u64 p, va, vb] w fun e w' => ∃ v1 rs, e = .returned v1 ∧ OwnM w' w.heap.size v1 rs (mulM p A B) ∧ Below w.heap.size w w' := by
  obtain ⟨a0, c0, rfl⟩ := hA.shape
  obtain ⟨a1, c1, rfl⟩ := hB.shape
  have HM := Lib.hid (And.intro hA (And.intro hB (And.intro hra hrb)))
  clear hA hB hra hrb
  by_cases hoa : OkM p A
  · have hda : (known p && decide (Vld A)) = true := by rw [okM_dec, decide_eq_true hoa]
    have ha64 := hoa.2.2
    have hca64 := hoa.2.cols
    by_cases hob : OkM p B
    · have hdb : (known p && decide (Vld B)) = true := by rw [okM_dec, decide_eq_true hob]
      have hb64 := hob.2.2
      have hcb64 := hob.2.cols
      by_cases hl : B.length = cols A
      · have hres : mulM p A B = (List.range A.length).map fun i => (List.range (cols B)).map fun j => ival p (Po.mul B.length (mf p A) (mf p B) i j) := by unfold mulM; rw [if_pos ⟨hoa, hob, hl⟩]
        have hne : ((B.length : Int) != (cols A : Int)) = false := by rw [hl]; simp
        have i1 : (A.length : Int) ≤ 64 := by omega
        have i2 : (B.length : Int) ≤ 64 := by omega
        have i3 : (cols B : Int) ≤ 64 := by omega
        obtain ⟨L, hL⟩ : ∃ L, L = mulM p A B := ⟨_, rfl⟩
        have hLl : L.length = A.length := by rw [hL, hres]; simp
        have hLi : ∀ i (h : i < L.length), L[i] = (List.range (cols B)).map fun j => ival p (Po.mul B.length (mf p A) (mf p B) i j) := fun i h => by
          subst hL
          simp only [hres, List.getElem_map, List.getElem_range]
        rw [← hL]
        have HK := Lib.hid (And.intro hoa (And.intro hob (And.intro hda (And.intro hdb (And.intro hl (And.intro hLl hLi))))))
        clear hoa hob hda hdb hl hres hL hLl hLi
        go_enter Try.func33, Try.ntmps33
        go_upto_region 3 with (first
          | (go_at_call 64; (with_reducible show Calls Try.prog 64 #[.int .u64 p, .slice a0 A.length c0] _ _); refine (kok_u p _ A _ HM.out.1 hn HM.out.2.2.1).mono ?_; rintro e w1 ⟨rfl, hb1⟩; rw [HK.out.2.2.1])
          | (go_at_call 64; (with_reducible show Calls Try.prog 64 #[.int .u64 p, .slice a1 B.length c1] _ _); refine (kok_u p _ B _ (HM.out.2.1.hold hb1.b) hm HM.out.2.2.2).mono ?_; rintro e w2 ⟨rfl, hb2⟩; rw [HK.out.2.2.2.1])
          | (go_at_call 41; refine (kColumns_u _ A _ (HM.out.1.hold (Below.next (Nat.le_refl _) hb1.b hb2.b)) hn).mono ?_; rintro e w3 ⟨rfl, rfl⟩))
        have HB := Lib.hid (Below.next (Nat.le_refl _) hb1.b hb2.b)
        clear hb1 hb2
        go_wp2
        go_loopw [7, 8] (fun ov iv wr => ∃ (i : Nat) (rs : Nat → Value), iv = .int .i64 i ∧ i ≤ A.length ∧ OwnM wr w.heap.size ov rs (L.take i) ∧ Below w.heap.size w wr) (fun _ iv _ => A.length - (intOf iv).toNat)
        case atStart => exact ⟨0, fun _ => undef, rfl, Nat.zero_le _, empty_mat _ _ _ HB.out.size, Below.next (Nat.le_refl _) HB.out (Below.made (Nat.le_refl _) (Below.refl _ _) _)⟩
        case round =>
          obtain ⟨i, rs, rfl, hi, hown, hb⟩ := hrel
          have i0 : (0 : Int) ≤ (i : Int) := by omega
          by_cases hlt : i < A.length
          · have i4 : (i : Int) < (A.length : Int) := by omega
            have hlL := HK.out.2.2.2.2.2.1
            have htk : L.take (i + 1) = L.take i ++ [L[i]] := List.take_succ_eq_append_getElem (by omega)
            have hXi := HK.out.2.2.2.2.2.2 i (by omega)
            obtain ⟨X, hX⟩ : ∃ X, X = L[i] := ⟨_, rfl⟩
            rw [← hX] at htk hXi
            have hXl : X.length = cols B := by rw [hXi]; simp
            have hXj : ∀ j (h : j < X.length), X[j] = ival p (Po.mul B.length (mf p A) (mf p B) i j) := fun j h => by subst hXi; simp
            have hlt2 : (L.take i).length = i := by rw [List.length_take]; omega
            have HW := Lib.hid (And.intro hown (And.intro hb (And.intro htk (And.intro hXl (And.intro hXj hlt2)))))
            clear hown hb htk hXi hX hXl hXj hlt2 hlL
            rename World => wi
            go_wp2_with fail
            go_loopw [9, 10] (fun rv jv wr => ∃ j : Nat, jv = .int .i64 j ∧ j ≤ cols B ∧ Own wr wi.heap.size rv (X.take j) ∧ Below wi.heap.size wi wr) (fun _ jv _ => cols B - (intOf jv).toNat)
            case atStart => exact ⟨0, rfl, Nat.zero_le _, empty_own _ _ (Nat.le_refl _), Below.made (Nat.le_refl _) (Below.refl _ _) _⟩
            case round =>
              obtain ⟨j, rfl, hj, hrow, hbi⟩ := hrel
              have j0 : (0 : Int) ≤ (j : Int) := by omega
              have HR := Lib.hid (And.intro hrow hbi)
              clear hrow hbi
              by_cases hjl : j < cols B
              · have j1 : (j : Int) < (cols B : Int) := by omega
                go_wp2_with (go_at_call 41; refine (kColumns_u _ B _ ((HM.out.2.1.hold HW.out.2.1).hold HR.out.2) hm).mono ?_; rintro e w3 ⟨rfl, rfl⟩)
                rename World => wj
                go_loopw [11, 12] (fun sv kv wr => ∃ k : Nat, kv = .int .i64 k ∧ k ≤ B.length ∧ sv = .int .u64 (ival p (Po.sm (fun l => mf p A i l * mf p B l j) k)) ∧ Nw wj.heap.size wj wr) (fun _ kv _ => B.length - (intOf kv).toNat)
                case atStart => exact ⟨0, rfl, Nat.zero_le _, by rw [show Po.sm (fun l => mf p A i l * mf p B l j) 0 = 0 from rfl, ival_z HK.out.1.1], Nw.refl _ _⟩
                case round =>
                  obtain ⟨k, rfl, hk, rfl, hbk⟩ := hrel
                  have k0 : (0 : Int) ≤ (k : Int) := by omega
                  by_cases hkl : k < B.length
                  · have k1 : (k : Int) < (B.length : Int) := by omega
                    have hAi := (HK.out.1.2.1 i hlt).1
                    have hBk := (HK.out.2.1.2.1 k hkl).1
                    have hlc := HK.out.2.2.2.2.1
                    obtain ⟨b, o, c, rv, e, hc, hlr⟩ := (((HM.out.1.hold HW.out.2.1).hold HR.out.2).hold hbk.b).rows i hlt
                    obtain ⟨rfl, rfl⟩ : a0 = some ⟨b, o, none⟩ ∧ c0 = c := by simp at e; exact e
                    obtain ⟨b1, o1, c2, rv1, e1, hc1, hlr1⟩ := (((HM.out.2.1.hold HW.out.2.1).hold HR.out.2).hold hbk.b).rows k hkl
                    obtain ⟨rfl, rfl⟩ : a1 = some ⟨b1, o1, none⟩ ∧ c1 = c2 := by simp at e1; exact e1
                    obtain ⟨b3, o3, c3, e3, hcx⟩ := hlr.cells k (by omega)
                    obtain ⟨b4, o4, c4, e4, hcy⟩ := hlr1.cells j (by omega)
                    have hux := hlr.us A[i][k] (List.getElem_mem (by omega))
                    have huy := hlr1.us B[k][j] (List.getElem_mem (by omega))
                    have hmx : mf p A i k = ph p A[i][k] := by rw [mf_row hlt, getD_lt _ (by omega)]
                    have hmy : mf p B k j = ph p B[k][j] := by rw [mf_row hkl, getD_lt _ (by omega)]
                    rw [e3] at hc
                    rw [e4] at hc1
                    obtain ⟨x, hx⟩ : ∃ x, x = A[i][k] := ⟨_, rfl⟩
                    obtain ⟨y, hy⟩ : ∃ y, y = B[k][j] := ⟨_, rfl⟩
                    rw [← hx] at hux hcx hmx
                    rw [← hy] at huy hcy hmy
                    obtain ⟨la, hla⟩ : ∃ la, la = A[i].length := ⟨_, rfl⟩
                    obtain ⟨lb, hlb⟩ : ∃ lb, lb = B[k].length := ⟨_, rfl⟩
                    rw [← hla] at hc hAi
                    rw [← hlb] at hc1 hBk
                    have k2 : (k : Int) < (la : Int) := by omega
                    have k3 : (j : Int) < (lb : Int) := by omega
                    obtain ⟨s0, hs0⟩ : ∃ s0, s0 = ival p (Po.sm (fun l => mf p A i l * mf p B l j) k) := ⟨_, rfl⟩
                    have hsU : U s0 := by rw [hs0]; infer_instance
                    have hval : ad p s0 (ml p x y) = ival p (Po.sm (fun l => mf p A i l * mf p B l j) (k + 1)) := by
                      rw [ad_ival HK.out.1.1, ph_ml HK.out.1.1, hs0, ph_ival HK.out.1.1, ← hmx, ← hmy]; rfl
                    rw [← hs0]
                    have HV := Lib.hid (And.intro hbk hval)
                    clear hbk hval hs0 hmx hmy hx hy hla hlb e e1 e3 e4 hlr hlr1 hAi hBk hlc
                    go_wp2_with fail
                    have m0 := fun q : NwAt wr => q.nw.hold hc
                    have m1 := fun q : NwAt wr => q.nw.hold hc1
                    have m2 := fun q : NwAt wr => q.nw.hold hcx
                    have m3 := fun q : NwAt wr => q.nw.hold hcy
                    refine from_here ?_
                    intro q
                    refine wp_region_nw (by kernel_rfl) (by kernel_rfl) ?_
                    repeat (go_big_quiet_step ((first | (go_at_call 43; exact nwAt_of (rMul_u _ _ _ _)) | (go_at_call 72; exact nwAt_of (rAdd_u _ _ _ _)))))
                    refine wpQuiet_nil ?_
                    clear q
                    rintro _ ⟨q, rfl⟩
                    clear m0 m1 m2 m3
                    go_wp2
                    exact ⟨⟨k + 1, by go_num, by omega, by rw [HV.out.2], Nw.next (Nat.le_refl _) HV.out.1 q.nw⟩, by simp [intOf]; omega⟩
                  · obtain rfl : B.length = k := by omega
                    obtain ⟨s0, hs0⟩ : ∃ s0, s0 = ival p (Po.sm (fun l => mf p A i l * mf p B l j) B.length) := ⟨_, rfl⟩
                    have hsU : U s0 := by rw [hs0]; infer_instance
                    have htx : X.take (j + 1) = X.take j ++ [s0] := by
                      rw [List.take_succ_eq_append_getElem (by rw [HW.out.2.2.2.1]; exact hjl), HW.out.2.2.2.2.1, hs0]; rfl
                    have hxl : (X.take j).length ≤ 1000000 := by rw [List.length_take]; omega
                    rw [← hs0]
                    have HV := Lib.hid (And.intro hbk.b (And.intro htx hxl))
                    clear hbk htx hxl hs0
                    go_wp2_with (at_builtin; refine append_one rfl (.tmp 69) (.tmp 71) rfl wi.heap.size u9 _ rfl (HR.out.1.hold HV.out.1) s0 inferInstance rfl HV.out.2.2 (Nat.le_trans HR.out.2.size HV.out.1.size) ?_; intro v' w' hown' hb')
                    rw [← HV.out.2.1] at hown'
                    exact ⟨⟨j + 1, by go_num, by omega, hown', Below.trans (Below.next (Nat.le_refl _) HR.out.2 HV.out.1) hb'⟩, by simp [intOf]; omega⟩
              · obtain rfl : cols B = j := by omega
                have hrow := HR.out.1
                rw [List.take_of_length_le (by rw [HW.out.2.2.2.1]; exact Nat.le_refl _)] at hrow
                obtain ⟨a2, c2, rfl⟩ := hrow.slice
                have HV := Lib.hid hrow
                clear hrow
                go_wp2_with (first
                  | (go_at_call 41; refine (kColumns_u _ B _ ((HM.out.2.1.hold HW.out.2.1).hold HR.out.2) hm).mono ?_; rintro e w3 ⟨rfl, rfl⟩)
                  | (at_builtin; refine append_mat rfl (.tmp 73) (.tmp 75) rfl w.heap.size u7 rs _ rfl (HW.out.1.hold HR.out.2) _ X (HV.out.low HW.out.2.1.size) (HW.out.1.fresh HV.out).1 (HW.out.1.fresh HV.out).2 rfl (by rw [HW.out.2.2.2.2.2]; omega) (Nat.le_trans HW.out.2.1.size HR.out.2.size) ?_; intro g2 c3 w4 hown4 _ hg4))
                rw [← HW.out.2.2.1] at hown4
                exact ⟨⟨i + 1, _, by go_num, by omega, by first | exact hown4 | (simpa using hown4), (Below.next (Nat.le_refl _) HW.out.2.1 HR.out.2).grown hg4 (Nat.le_trans HW.out.2.1.size HR.out.2.size) (fun b e => (HW.out.1.outer.lt b e).1)⟩, by simp [intOf]; omega⟩
          · obtain rfl : A.length = i := by omega
            rw [List.take_of_length_le (by rw [HK.out.2.2.2.2.2.1]; exact Nat.le_refl _)] at hown
            have HW := Lib.hid (And.intro hown hb)
            clear hown hb
            go_wp2
            go_ret
            exact ⟨_, rs, rfl, HW.out.1, HW.out.2⟩
      · have hres : mulM p A B = [] := by unfold mulM; rw [if_neg fun h => hl h.2.2]
        have hne : ((B.length : Int) != (cols A : Int)) = true := bne_iff_ne.2 (show (B.length : Int) ≠ (cols A : Int) by omega)
        rw [hres]
        have HK := Lib.hid (And.intro hda hdb)
        clear hoa hob hda hdb hl hres
        go_enter Try.func33, Try.ntmps33
        go_wp2_with (first
          | (go_at_call 64; (with_reducible show Calls Try.prog 64 #[.int .u64 p, .slice a0 A.length c0] _ _); refine (kok_u p _ A _ HM.out.1 hn HM.out.2.2.1).mono ?_; rintro e w1 ⟨rfl, hb1⟩; rw [HK.out.1])
          | (go_at_call 64; (with_reducible show Calls Try.prog 64 #[.int .u64 p, .slice a1 B.length c1] _ _); refine (kok_u p _ B _ (HM.out.2.1.hold hb1.b) hm HM.out.2.2.2).mono ?_; rintro e w2 ⟨rfl, hb2⟩; rw [HK.out.2])
          | (go_at_call 41; refine (kColumns_u _ A _ (HM.out.1.hold (Below.next (Nat.le_refl _) hb1.b hb2.b)) hn).mono ?_; rintro e w3 ⟨rfl, rfl⟩))
        go_ret
        exact ⟨_, fun _ => undef, rfl, OwnM.nil _ _ _, Below.next (Nat.le_refl _) hb1.b hb2.b⟩
    · have hdb : (known p && decide (Vld B)) = false := by rw [okM_dec, decide_eq_false hob]
      have hres : mulM p A B = [] := by unfold mulM; rw [if_neg fun h => hob h.2.1]
      rw [hres]
      have HK := Lib.hid (And.intro hda hdb)
      clear hoa hob hda hdb hres
      go_enter Try.func33, Try.ntmps33
      go_wp2_with (first
        | (go_at_call 64; (with_reducible show Calls Try.prog 64 #[.int .u64 p, .slice a0 A.length c0] _ _); refine (kok_u p _ A _ HM.out.1 hn HM.out.2.2.1).mono ?_; rintro e w1 ⟨rfl, hb1⟩; rw [HK.out.1])
        | (go_at_call 64; (with_reducible show Calls Try.prog 64 #[.int .u64 p, .slice a1 B.length c1] _ _); refine (kok_u p _ B _ (HM.out.2.1.hold hb1.b) hm HM.out.2.2.2).mono ?_; rintro e w2 ⟨rfl, hb2⟩; rw [HK.out.2]))
      go_ret
      exact ⟨_, fun _ => undef, rfl, OwnM.nil _ _ _, Below.next (Nat.le_refl _) hb1.b hb2.b⟩
  · have hda : (known p && decide (Vld A)) = false := by rw [okM_dec, decide_eq_false hoa]
    have hres : mulM p A B = [] := by unfold mulM; rw [if_neg fun h => hoa h.1]
    rw [hres]
    have HK := Lib.hid hda
    clear hoa hda hres
    go_enter Try.func33, Try.ntmps33
    go_wp2_with (go_at_call 64; (with_reducible show Calls Try.prog 64 #[.int .u64 p, .slice a0 A.length c0] _ _); refine (kok_u p _ A _ HM.out.1 hn HM.out.2.2.1).mono ?_; rintro e w1 ⟨rfl, hb1⟩; rw [HK.out])
    go_ret
    exact ⟨_, fun _ => undef, rfl, OwnM.nil _ _ _, hb1.b⟩
end Go.Proofs.Ytdcdaclkeocfpaa
