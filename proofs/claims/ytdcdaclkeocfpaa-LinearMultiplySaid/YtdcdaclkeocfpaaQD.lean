/- The walk of package linear's eliminate. -/
import Derived.Test.YtdcdaclkeocfpaaQC
namespace Go.Proofs.Ytdcdaclkeocfpaa
open Go.RowKit Go.BigFrame
open Classical

set_option maxRecDepth 100000 in
set_option maxHeartbeats 16000000 in
theorem meliminate_w (p : Int) [_hpU : U p] (hk : known p = true) (base : Nat) (v : Value) (rs : Nat → Value) (M : List (List Int)) (m n : Nat) (w : World) (hm : OwnM w base v rs M) (hmt : Mt p m n M) (hc : cols M = n) (hm1 : m ≤ 100) (hn1 : n ≤ 200) (hbase : base ≤ w.heap.size) :
    Calls Try.prog 63 #[.agg #[.int .u64 p], v] w fun e w' => ∃ vp rs' R c fac, e = .returned (.tuple #[vp, .int .u64 fac]) ∧ OwnM w' base v rs' R ∧ OwI w' w.heap.size vp c ∧ Elm p M n R c ∧ (0 ≤ fac ∧ fac < p) ∧ Po.det m (mf p M) = ph p fac * Po.det m (mf p R) ∧ Below base w w' := by
  have hpl := known_lo hk
  have hph := known_hi hk
  have hml := hmt.len
  have i1 : (m : Int) ≤ 100 := by omega
  have hb0 : Below base w (w.alloc (.cells #[.int .u64 p] 27)) := Below.made hbase (Below.refl _ _) _
  have HM := Lib.hid (And.intro hm (And.intro hmt (And.intro hk (And.intro hc (And.intro hml hb0)))))
  clear hm hmt hk hc hml hb0
  go_enter Try.func63, Try.ntmps63
  go_wp2_with (go_at_call 66; refine (mcolumns_u _ M _ (HM.out.1.matR.hold (Below.made (Nat.le_refl _) (Below.refl _ _) _)) (by have := HM.out.2.2.2.2.1; omega)).mono ?_; rintro e w1 ⟨rfl, rfl⟩; rw [HM.out.2.2.2.1])
  go_loopw [6, 7, 13] (fun cv fv jv wr => ∃ (j : Nat) (rs : Nat → Value) (L : List (List Int)) (c : List Nat) (fac : Int), jv = .int .i64 j ∧ fv = .int .u64 fac ∧ j ≤ n ∧ OwnM wr base v rs L ∧ OwI wr (w.heap.size + 1) cv c ∧ Mt p m n L ∧ Po.Part m j (mf p L) c ∧ Po.Ops m (mf p M) (mf p L) ∧ (0 ≤ fac ∧ fac < p) ∧ Po.det m (mf p M) = ph p fac * Po.det m (mf p L) ∧ (∀ i, i < m → ∀ g, (rs i).ownBlock = some g → g < w.heap.size) ∧ wr.cell? ⟨w.heap.size, 0, none⟩ = some (.int .u64 p) ∧ Below base w wr ∧ w.heap.size + 1 ≤ wr.heap.size) (fun _ _ jv _ => n - (intOf jv).toNat)
  case atStart =>
    refine ⟨0, rs, M, [], 1, rfl, rfl, Nat.zero_le _, HM.out.1.hold (Below.made (Nat.le_refl _) (Below.refl _ _) _), OwI.nil _ _, HM.out.2.1, Po.Part.zero _ _, .refl, by omega, by rw [ph_one HM.out.2.2.1]; grind, fun i hi g e => ((HM.out.1.row i (by rw [HM.out.2.2.2.2.1]; exact hi)).row.lt g e).2, by go_simp, HM.out.2.2.2.2.2, by simp⟩
  case round =>
    obtain ⟨j, rs, L, c, fac, rfl, rfl, hj, hm, hci, hmt, hpart, hops, hfr, hdet, hrs, hbx, hb, hsz⟩ := hrel
    have j0 : (0 : Int) ≤ (j : Int) := by omega
    by_cases hjn : j < n
    · have hLm := hmt.len
      have hm0 : 0 < m := by
        apply Classical.byContradiction
        intro h
        have h2 := HM.out.2.2.2.1
        have h3 : M = [] := List.length_eq_zero_iff.1 (by have := HM.out.2.2.2.2.1; omega)
        rw [h3] at h2
        simp [cols] at h2
        omega
      obtain ⟨g0, cap0, rfl⟩ : ∃ g cap, v = .slice (some ⟨g, 0, none⟩) m cap := by
        rcases hm.cases with ⟨_, e⟩ | ⟨g, cap, e, _⟩
        · rw [e] at hLm; simp at hLm; omega
        · rw [hLm] at e; exact ⟨g, cap, e⟩
      obtain ⟨pa, pc, rfl⟩ := hci.lst.shape
      have hcl := hpart.len
      have hfU : U fac := ⟨hfr.1, by omega⟩
      have hg0 : g0 < w.heap.size := (HM.out.1.outer.lt g0 rfl).2
      have i5 : (j : Int) < (n : Int) := by omega
      have i6 : (c.length : Int) ≤ (m : Int) := by omega
      have i7 : (0 : Int) ≤ (c.length : Int) := by omega
      have HW := Lib.hid (And.intro hm (And.intro hmt (And.intro hpart (And.intro hops (And.intro hci (And.intro hrs (And.intro hb (And.intro hsz (And.intro hdet (And.intro hfr hLm))))))))))
      clear hm hmt hpart hops hci hrs hb hsz hdet hfr hLm
      go_upto_region 8 with (go_at_call 100; refine (mfirst_u _ L c.length j _ HW.out.1.matR (by have := HW.out.2.1.len; omega) (by have := HW.out.2.1.len; omega) (fun i h => by rw [HW.out.2.1.row i h]; exact hjn) (by omega)).mono ?_; rintro _ w1 ⟨k, rfl, hk1, hk2, hz, hx, hw1⟩; obtain rfl : wr = w1 := hw1.symm)
      have k0' : (0 : Int) ≤ (k : Int) := by omega
      have hLm := HW.out.2.1.len
      by_cases hkm : k < m
      · have i8 : ((k : Int) == (m : Int)) = false := by simp; omega
        have hx0 : (L.getD k []).getD j 0 ≠ 0 := hx (by omega)
        have hkL : k < L.length := by omega
        have haL : c.length < L.length := by omega
        have hrowk := HW.out.2.1.row k hkL
        have hrowa := HW.out.2.1.row c.length haL
        obtain ⟨gk, capk, hrk⟩ := HW.out.1.rows hkL (by omega)
        rw [hrowk] at hrk
        obtain ⟨x, hxx⟩ : ∃ x, x = (L.getD k []).getD j 0 := ⟨_, rfl⟩
        rw [← hxx] at hx0
        clear hz hx hrowk
        by_cases hka : c.length < k
        · have i9 : ((c.length : Nat) : Int) < (k : Int) := by omega
          obtain ⟨ga, capa, hra⟩ := HW.out.1.rows haL (by omega)
          rw [hrowa] at hra
          have hco := HW.out.1.out hkL hrk
          have hca := HW.out.1.out haL hra
          have hza := HW.out.1.thawed c.length
          have hzk := HW.out.1.thawed k
          have hsw := HW.out.1.swap haL hkL
          rw [hrk, hra] at hsw
          have hcs : (wr.setCell ⟨g0, c.length, none⟩ (.slice (some ⟨gk, 0, none⟩) n capk)).cell? ⟨g0, k, none⟩ = some (.slice (some ⟨gk, 0, none⟩) n capk) := by
            rw [World.cell?_setCell_other _ _ _ _ (by intro h; have := congrArg Addr.off h; simp at this; omega)]; exact hco
          have HS := Lib.hid hsw
          have HR := Lib.hid (And.intro hra (And.intro hrk hxx))
          have i11 : ((c.length : Nat) : Int) < (m : Int) := by omega
          have i13 : (k : Int) < (m : Int) := by omega
          clear hsw hrowa hra hrk hxx
          go_wp2_with fail
          go_region
          go_upto_region 11 with fail
          refine name_world ?_
          intro W1 hW1
          have hBw : base ≤ g0 := (HW.out.1.outer.lt g0 rfl).1
          have hd : Below wr.heap.size wr wr.drew := Below.drew (Below.refl _ _)
          have hm1' := HS.out.1.hold (Below.drew (Below.refl _ _))
          have hg1 : wr.grownBy W1 (some g0) := by rw [hW1]; exact grown_next HS.out.2 (Below.drew (Below.refl _ _))
          rw [← hW1] at hm1'
          have hbx1 := grown_cell hg1 hbx (by intro e; have e2 : w.heap.size = g0 := by simpa using e
                                              omega)
          have hbl1 : Below base w W1 := HW.out.2.2.2.2.2.2.1.grown hg1 (Nat.le_trans hbase (Nat.le_trans (Nat.le_succ _) HW.out.2.2.2.2.2.2.2.1)) (fun b e => by cases e; exact hBw)
          have hc1 : OwI W1 (w.heap.size + 1) (.slice pa c.length pc) c := HW.out.2.2.2.2.1.kept hg1 (none_or fun b e e2 => by
            cases e
            have := (World.ownsRow.lt HW.out.2.2.2.2.1 _ e2).1
            omega)
          have hsz1 := Nat.le_trans HW.out.2.2.2.2.2.2.2.1 hg1.size
          obtain ⟨rs1, hrs1⟩ : ∃ f : Nat → Value, f = fun i => rs (if i = c.length then k else if i = k then c.length else i) := ⟨_, rfl⟩
          obtain ⟨S, hS⟩ : ∃ S, S = swapL L c.length k := ⟨_, rfl⟩
          rw [← hrs1, ← hS] at hm1'
          have hmtS : Mt p m n S := by rw [hS]; exact HW.out.2.1.swap haL hkL
          have hmfS : mf p S = Po.swap c.length k (mf p L) := by rw [hS]; exact mf_swap haL hkL
          have hAx : (S.getD c.length []).getD j 0 = x := by
            rw [HR.out.2.2, getD_row (by rw [hmtS.len]; omega)]
            subst hS
            rw [swapL_at, if_pos rfl]
          have hra1 : rs1 c.length = .slice (some ⟨gk, 0, none⟩) n capk := by rw [hrs1]; simp only [if_true]; exact HR.out.2.1
          have hrsS : ∀ i, i < m → ∀ g, (rs1 i).ownBlock = some g → g < w.heap.size := fun i hi g e => by
            rw [hrs1] at e
            exact HW.out.2.2.2.2.2.1 _ (by split <;> (try split) <;> omega) g e
          have hd1 : Po.det m (mf p M) = ph p (sb p 0 fac) * Po.det m (mf p S) := by
            rw [HW.out.2.2.2.2.2.2.2.2.1, hmfS, Po.det_swap (by omega) hkm (by omega), ph_sb HM.out.2.2.1, ph_zero HM.out.2.2.1]
            grind
          have HX := Lib.hid (And.intro hm1' (And.intro hbl1 (And.intro hc1 (And.intro hsz1 (And.intro hmtS (And.intro hmfS (And.intro hAx (And.intro hra1 (And.intro hrsS hd1)))))))))
          clear hW1 hd hm1' hg1 hbl1 hc1 hsz1 hmtS hmfS hAx hra1 hrsS hrs1 hS hcs hco hca hza hzk hd1
          go_upto_region 12 with (go_at_call 68; refine (fNeg_u p fac _).mono ?_; rintro _ W ⟨rfl, hbW⟩)
          obtain ⟨fac1, hf1⟩ : ∃ y, y = sb p 0 fac := ⟨_, rfl⟩
          have hfr : 0 ≤ fac1 ∧ fac1 < p := by rw [hf1]; exact sb_rng HM.out.2.2.1 _ _
          rw [← hf1] at HX ⊢
          have hmS := HX.out.1.hold hbW.b
          have hcS := HX.out.2.2.1.hold hbW.b
          have hmtS := HX.out.2.2.2.2.1
          have hmfS := HX.out.2.2.2.2.2.1
          have hdS := HX.out.2.2.2.2.2.2.2.2.2
          have hrsS := HX.out.2.2.2.2.2.2.2.2.1
          have hbS := Below.next hbase HX.out.2.1 hbW.b
          have hszS := Nat.le_trans HX.out.2.2.2.1 hbW.b.size
          have hAx := HX.out.2.2.2.2.2.2.1
          have hra := HX.out.2.2.2.2.2.2.2.1
          have hbxS := hbW.hold hbx1
          clear hbW hf1 hbx1 hbx HX HR HS
          have hfU1 : U fac1 := ⟨hfr.1, by omega⟩
          have haS : c.length < S.length := by rw [hmtS.len]; omega
          have hAl := hmtS.row c.length haS
          have hjA : j < S[c.length].length := by omega
          have hAj2 : S[c.length][j] = x := by rw [← getD_lt _ hjA, ← getD_row haS]; exact hAx
          have hci := hmS.cellIn haS hra rfl hjA
          rw [hAj2] at hci
          obtain ⟨hce, -, hux⟩ := hci
          have hco := hmS.out haS hra
          have hx1 : 0 ≤ x ∧ x < p := by rw [← hAj2]; exact hmtS.red c.length haS _ (List.getElem_mem hjA)
          have hxp : x % p ≠ 0 := by rw [Int.emod_eq_of_lt hx1.1 hx1.2]; exact hx0
          have hinv : ph p (iv p x) * ph p x = 1 := ph_iv HM.out.2.2.1 hx1.1 hxp
          have hSk : mf p S c.length j = ph p x := by unfold mf; rw [hAx]
          have hv : ph p (iv p x) * mf p L k j = 1 := by
            have e1 : mf p S c.length j = mf p L k j := by rw [hmfS]; unfold Po.swap; rw [if_pos rfl]
            rw [← e1, hSk]; exact hinv
          have hoA := hmS.row c.length haS
          obtain ⟨A, hA⟩ : ∃ A, A = S[c.length] := ⟨_, rfl⟩
          rw [← hA] at hoA hAl
          rw [hra] at hoA
          have hmt0 : Mt p m n (S.set c.length (scK p (iv p x) A A.length)) := hmtS.set (by rw [scK_len]; exact hAl) (scK_rdc HM.out.2.2.1 _ _ (by rw [hA]; exact hmtS.red c.length haS))
          have hmf0 : mf p (S.set c.length (scK p (iv p x) A A.length)) = Po.elim (mf p S) c.length j (ph p (iv p x)) 0 := by
            have h := mf_scale HM.out.2.2.1 haS j (iv p x)
            rw [← hA] at h; exact h
          have hpa := HW.out.2.2.1.pivot (by omega) hkm hv
          have hop := HW.out.2.2.2.1.trans ((Po.swap_ops (mf p L) (show c.length < m by omega) hkm).trans (Po.elim_ops (a := c.length) (j := j) (show c.length < m by omega) hv m (Nat.le_refl _)))
          rw [← hmfS] at hpa hop
          have hdet : Po.det m (mf p M) = ph p (ml p fac1 x) * Po.det m (Po.elim (mf p S) c.length j (ph p (iv p x)) m) := by
            rw [Po.det_elim _ _ (show c.length < m by omega) _ (Nat.le_refl _), ph_ml HM.out.2.2.1, hdS]
            have e : ∀ a b c d : Fin (Q p), c * b = 1 → a * d = a * b * (c * d) := fun a b c d h => by
              have : a * b * (c * d) = a * (c * b) * d := by grind
              rw [this, h]; grind
            exact e _ _ _ _ hinv
          have HP := Lib.hid (And.intro hpa (And.intro hop hdet))
          have HS2 := Lib.hid (And.intro hmS (And.intro hcS (And.intro hrsS (And.intro hbS (And.intro hszS (And.intro hra haS))))))
          have HT := Lib.hid (And.intro hmt0 (And.intro hmf0 (And.intro hoA (And.intro hAl (ml_rng HM.out.2.2.1 fac1 x)))))
          have hgk : gk < w.heap.size := hrsS c.length (by omega) gk (by rw [hra]; rfl)
          have k0 := fun q : NwAt W => q.nw.hold hbxS
          have k1 := fun q : NwAt W => q.nw.hold hco
          have k2 := fun q : NwAt W => q.nw.hold hce
          clear hpa hop hdet hmS hcS hrsS hbS hszS hra haS hmt0 hmf0 hoA hA hAx hAj2 hSk hv hinv hx1 hxp hdS hfr hmfS hmtS hjA hAl hbxS hco hce
          refine from_here ?_
          intro q
          refine wp_region_nw (by kernel_rfl) (by kernel_rfl) ?_
          repeat (go_big_quiet_step ((first | (go_at_call 38; exact nwAt_of (fMul_u _ _ _ _)))))
          refine wpQuiet_nil ?_
          clear q
          rintro _ ⟨q, rfl⟩
          go_wp2_with fail
          refine wp_region_nwt 14 (by kernel_rfl) (by kernel_rfl) ?_
          simp only [List.take_succ_cons, List.take_zero, List.drop_succ_cons, List.drop_zero]
          repeat (go_big_quiet_step ((first | (go_at_call 87; exact nwAt_of (fInv_u _ _ _)))))
          refine wpQuiet_nil ?_
          clear q
          rintro _ ⟨q, rfl⟩
          have m0 := k0 q
          have m1 := k1 q
          clear k0 k1 k2
          go_wp2_with (first
            | (go_at_call 101; refine (mscale_w p (iv p x) base _ A _ (HT.out.2.2.1.hold q.nw.b) (by rw [HT.out.2.2.2.1]; omega)).mono ?_; rintro _ w3 ⟨rfl, hown3, hg3⟩; have hbx3 := grown_cell hg3 m0 (by intro e; have e2 : w.heap.size = gk := by simpa [Value.ownBlock] using e
                                                                                                                                                                                                             omega))
            | (go_at_call 102; refine (mclear_w p HM.out.2.2.1 base g0 cap0 rs1 (S.set c.length (scK p (iv p x) A A.length)) S m n c.length j (ph p (iv p x)) _ ((HS2.out.1.hold q.nw.b).upd HS2.out.2.2.2.2.2.2 (by rw [HS2.out.2.2.2.2.2.1]; exact hown3) (by rw [HS2.out.2.2.2.2.2.1]; exact hg3)) HT.out.1 (by omega) hjn HT.out.2.1 hm1 hn1).mono ?_; rintro _ w4 ⟨N, rfl, hmN, hmtN, hmfN, hgN⟩
               have hbx4 := hgN.cell hbx3 (by rintro ⟨i, hi, e⟩; have := HS2.out.2.2.1 i hi _ e; simp at this)
               have hc3 : OwI w3 (w.heap.size + 1) (.slice pa c.length pc) c := (HS2.out.2.1.hold q.nw.b).kept hg3 (none_or fun b e e2 => by
                 have e3 : gk = b := by simpa [Value.ownBlock] using e
                 have := (World.ownsRow.lt HS2.out.2.1 _ e2).1
                 omega)
               have hc4 := hc3.grew hgN fun b e => (by rintro ⟨i, hi, e2⟩; have h1 := HS2.out.2.2.1 i hi _ e2; have h2 := (World.ownsRow.lt HS2.out.2.1 _ e).1; omega)
               have hb3 : Below base w w3 := (Below.next hbase HS2.out.2.2.2.1 q.nw.b).grown hg3 (Nat.le_trans hbase (Nat.le_trans (Nat.le_succ _) (Nat.le_trans HS2.out.2.2.2.2.1 q.nw.b.size))) (fun b e => by
                 have h1 := ((HS2.out.1.row c.length HS2.out.2.2.2.2.2.2).row.lt b (by rw [HS2.out.2.2.2.2.2.1]; exact e)).1
                 exact h1)
               have hsz4 := Nat.le_trans HS2.out.2.2.2.2.1 (Nat.le_trans q.nw.b.size (Nat.le_trans hg3.size hgN.size))
               have hb4 : Below base w w4 := Grew.below hb3 hgN (Nat.le_trans hbase (Nat.le_trans (Nat.le_succ _) (Nat.le_trans HS2.out.2.2.2.2.1 (Nat.le_trans q.nw.b.size hg3.size)))) (fun g hg => by
                 obtain ⟨i, hi, e⟩ := hg
                 exact ((HS2.out.1.row i (by rw [← HT.out.1.len, List.length_set] at hi; exact hi)).row.lt g e).1)
               have HY := Lib.hid (And.intro hmN (And.intro hmtN (And.intro hmfN (And.intro hc4 (And.intro hb4 hsz4)))))
               clear hmN hmtN hmfN hc4 hb4 hsz4 hgN hc3 hb3 hown3 hg3)
            | (at_builtin; refine append_int rfl (.tmp 76) (.tmp 78) rfl (w.heap.size + 1) (.slice pa c.length pc) c rfl HY.out.2.2.2.1 j rfl (by omega) HY.out.2.2.2.2.2 ?_; intro g2 c2 w5 hown5 hg5 hgr5))
          have hvb : ∀ b, (Value.slice pa c.length pc).ownBlock = some b → w.heap.size + 1 ≤ b := fun b e => (World.ownsRow.lt HY.out.2.2.2.1 b e).1
          have hm5 := HY.out.1.kept hgr5 (fun b e e2 => by
            have h1 := hvb b e
            have h2 : g0 = b := by simpa [Value.ownBlock] using e2
            omega) (fun i hi b e e2 => by
            have h1 := hvb b e
            have h2 := HS2.out.2.2.1 i (by rw [← HY.out.2.1.len]; exact hi) b e2
            omega)
          have hbx5 := grown_cell hgr5 hbx4 (fun e => by
            have h1 : w.heap.size + 1 ≤ w.heap.size := hvb _ e.symm
            omega)
          have hb5 := HY.out.2.2.2.2.1.grown hgr5 (Nat.le_trans hbase (Nat.le_trans (Nat.le_succ _) HY.out.2.2.2.2.2)) (fun b e => by have h1 := hvb b e; omega)
          exact ⟨⟨j + 1, rs1, N, c ++ [j], ml p fac1 x, by go_num, rfl, by omega, hm5, hown5, HY.out.2.1, by rw [HY.out.2.2.1]; exact HP.out.1, by rw [HY.out.2.2.1]; exact HP.out.2.1, HT.out.2.2.2.2, by rw [HY.out.2.2.1]; exact HP.out.2.2, HS2.out.2.2.1, hbx5, hb5, Nat.le_trans HY.out.2.2.2.2.2 hgr5.size⟩, by simp [intOf]; omega⟩
        · have hka2 : k = c.length := by omega
          subst hka2
          have i9 : ¬ ((c.length : Nat) : Int) < (c.length : Int) := by omega
          have i9b : decide (((c.length : Nat) : Int) < (c.length : Int)) = false := by simp
          have i11 : ((c.length : Nat) : Int) < (m : Int) := by omega
          go_upto_region 12 with fail
          obtain ⟨fac1, hf1⟩ : ∃ y, y = fac := ⟨_, rfl⟩
          have hra := hrk
          have hfr : 0 ≤ fac1 ∧ fac1 < p := by rw [hf1]; exact HW.out.2.2.2.2.2.2.2.2.2.1
          have hdS := HW.out.2.2.2.2.2.2.2.2.1
          rw [← hf1] at hdS ⊢
          obtain ⟨rs1, hrs1⟩ : ∃ f : Nat → Value, f = rs := ⟨_, rfl⟩
          obtain ⟨S, hS⟩ : ∃ S, S = L := ⟨_, rfl⟩
          have hmS := HW.out.1
          have hcS := HW.out.2.2.2.2.1
          have hmtS := HW.out.2.1
          have hmfS : mf p S = Po.swap c.length c.length (mf p L) := by rw [Po.swap_self, hS]
          have hrsS := HW.out.2.2.2.2.2.1
          have hbS := HW.out.2.2.2.2.2.2.1
          have hszS := HW.out.2.2.2.2.2.2.2.1
          have hAx : (S.getD c.length []).getD j 0 = x := by rw [hS, hxx]
          have hbxS := hbx
          rw [← hS, ← hrs1] at hmS
          rw [← hS] at hmtS hdS
          rw [← hrs1] at hrsS hra
          clear hf1 hS hrs1 hrk hxx hrowa hbx
          have hfU1 : U fac1 := ⟨hfr.1, by omega⟩
          have haS : c.length < S.length := by rw [hmtS.len]; omega
          have hAl := hmtS.row c.length haS
          have hjA : j < S[c.length].length := by omega
          have hAj2 : S[c.length][j] = x := by rw [← getD_lt _ hjA, ← getD_row haS]; exact hAx
          have hci := hmS.cellIn haS hra rfl hjA
          rw [hAj2] at hci
          obtain ⟨hce, -, hux⟩ := hci
          have hco := hmS.out haS hra
          have hx1 : 0 ≤ x ∧ x < p := by rw [← hAj2]; exact hmtS.red c.length haS _ (List.getElem_mem hjA)
          have hxp : x % p ≠ 0 := by rw [Int.emod_eq_of_lt hx1.1 hx1.2]; exact hx0
          have hinv : ph p (iv p x) * ph p x = 1 := ph_iv HM.out.2.2.1 hx1.1 hxp
          have hSk : mf p S c.length j = ph p x := by unfold mf; rw [hAx]
          have hv : ph p (iv p x) * mf p L c.length j = 1 := by
            have e1 : mf p S c.length j = mf p L c.length j := by rw [hmfS]; unfold Po.swap; rw [if_pos rfl]
            rw [← e1, hSk]; exact hinv
          have hoA := hmS.row c.length haS
          obtain ⟨A, hA⟩ : ∃ A, A = S[c.length] := ⟨_, rfl⟩
          rw [← hA] at hoA hAl
          rw [hra] at hoA
          have hmt0 : Mt p m n (S.set c.length (scK p (iv p x) A A.length)) := hmtS.set (by rw [scK_len]; exact hAl) (scK_rdc HM.out.2.2.1 _ _ (by rw [hA]; exact hmtS.red c.length haS))
          have hmf0 : mf p (S.set c.length (scK p (iv p x) A A.length)) = Po.elim (mf p S) c.length j (ph p (iv p x)) 0 := by
            have h := mf_scale HM.out.2.2.1 haS j (iv p x)
            rw [← hA] at h; exact h
          have hpa := HW.out.2.2.1.pivot (by omega) hkm hv
          have hop := HW.out.2.2.2.1.trans ((Po.swap_ops (mf p L) (show c.length < m by omega) hkm).trans (Po.elim_ops (a := c.length) (j := j) (show c.length < m by omega) hv m (Nat.le_refl _)))
          rw [← hmfS] at hpa hop
          have hdet : Po.det m (mf p M) = ph p (ml p fac1 x) * Po.det m (Po.elim (mf p S) c.length j (ph p (iv p x)) m) := by
            rw [Po.det_elim _ _ (show c.length < m by omega) _ (Nat.le_refl _), ph_ml HM.out.2.2.1, hdS]
            have e : ∀ a b c d : Fin (Q p), c * b = 1 → a * d = a * b * (c * d) := fun a b c d h => by
              have : a * b * (c * d) = a * (c * b) * d := by grind
              rw [this, h]; grind
            exact e _ _ _ _ hinv
          have HP := Lib.hid (And.intro hpa (And.intro hop hdet))
          have HS2 := Lib.hid (And.intro hmS (And.intro hcS (And.intro hrsS (And.intro hbS (And.intro hszS (And.intro hra haS))))))
          have HT := Lib.hid (And.intro hmt0 (And.intro hmf0 (And.intro hoA (And.intro hAl (ml_rng HM.out.2.2.1 fac1 x)))))
          have hgk : gk < w.heap.size := hrsS c.length (by omega) gk (by rw [hra]; rfl)
          have k0 := fun q : NwAt wr => q.nw.hold hbxS
          have k1 := fun q : NwAt wr => q.nw.hold hco
          have k2 := fun q : NwAt wr => q.nw.hold hce
          clear hpa hop hdet hmS hcS hrsS hbS hszS hra haS hmt0 hmf0 hoA hA hAx hAj2 hSk hv hinv hx1 hxp hdS hfr hmfS hmtS hjA hAl hbxS hco hce
          refine from_here ?_
          intro q
          refine wp_region_nw (by kernel_rfl) (by kernel_rfl) ?_
          repeat (go_big_quiet_step ((first | (go_at_call 38; exact nwAt_of (fMul_u _ _ _ _)))))
          refine wpQuiet_nil ?_
          clear q
          rintro _ ⟨q, rfl⟩
          go_wp2_with fail
          refine wp_region_nwt 14 (by kernel_rfl) (by kernel_rfl) ?_
          simp only [List.take_succ_cons, List.take_zero, List.drop_succ_cons, List.drop_zero]
          repeat (go_big_quiet_step ((first | (go_at_call 87; exact nwAt_of (fInv_u _ _ _)))))
          refine wpQuiet_nil ?_
          clear q
          rintro _ ⟨q, rfl⟩
          have m0 := k0 q
          have m1 := k1 q
          clear k0 k1 k2
          go_wp2_with (first
            | (go_at_call 101; refine (mscale_w p (iv p x) base _ A _ (HT.out.2.2.1.hold q.nw.b) (by rw [HT.out.2.2.2.1]; omega)).mono ?_; rintro _ w3 ⟨rfl, hown3, hg3⟩; have hbx3 := grown_cell hg3 m0 (by intro e; have e2 : w.heap.size = gk := by simpa [Value.ownBlock] using e
                                                                                                                                                                                                             omega))
            | (go_at_call 102; refine (mclear_w p HM.out.2.2.1 base g0 cap0 rs1 (S.set c.length (scK p (iv p x) A A.length)) S m n c.length j (ph p (iv p x)) _ ((HS2.out.1.hold q.nw.b).upd HS2.out.2.2.2.2.2.2 (by rw [HS2.out.2.2.2.2.2.1]; exact hown3) (by rw [HS2.out.2.2.2.2.2.1]; exact hg3)) HT.out.1 (by omega) hjn HT.out.2.1 hm1 hn1).mono ?_; rintro _ w4 ⟨N, rfl, hmN, hmtN, hmfN, hgN⟩
               have hbx4 := hgN.cell hbx3 (by rintro ⟨i, hi, e⟩; have := HS2.out.2.2.1 i hi _ e; simp at this)
               have hc3 : OwI w3 (w.heap.size + 1) (.slice pa c.length pc) c := (HS2.out.2.1.hold q.nw.b).kept hg3 (none_or fun b e e2 => by
                 have e3 : gk = b := by simpa [Value.ownBlock] using e
                 have := (World.ownsRow.lt HS2.out.2.1 _ e2).1
                 omega)
               have hc4 := hc3.grew hgN fun b e => (by rintro ⟨i, hi, e2⟩; have h1 := HS2.out.2.2.1 i hi _ e2; have h2 := (World.ownsRow.lt HS2.out.2.1 _ e).1; omega)
               have hb3 : Below base w w3 := (Below.next hbase HS2.out.2.2.2.1 q.nw.b).grown hg3 (Nat.le_trans hbase (Nat.le_trans (Nat.le_succ _) (Nat.le_trans HS2.out.2.2.2.2.1 q.nw.b.size))) (fun b e => by
                 have h1 := ((HS2.out.1.row c.length HS2.out.2.2.2.2.2.2).row.lt b (by rw [HS2.out.2.2.2.2.2.1]; exact e)).1
                 exact h1)
               have hsz4 := Nat.le_trans HS2.out.2.2.2.2.1 (Nat.le_trans q.nw.b.size (Nat.le_trans hg3.size hgN.size))
               have hb4 : Below base w w4 := Grew.below hb3 hgN (Nat.le_trans hbase (Nat.le_trans (Nat.le_succ _) (Nat.le_trans HS2.out.2.2.2.2.1 (Nat.le_trans q.nw.b.size hg3.size)))) (fun g hg => by
                 obtain ⟨i, hi, e⟩ := hg
                 exact ((HS2.out.1.row i (by rw [← HT.out.1.len, List.length_set] at hi; exact hi)).row.lt g e).1)
               have HY := Lib.hid (And.intro hmN (And.intro hmtN (And.intro hmfN (And.intro hc4 (And.intro hb4 hsz4)))))
               clear hmN hmtN hmfN hc4 hb4 hsz4 hgN hc3 hb3 hown3 hg3)
            | (at_builtin; refine append_int rfl (.tmp 76) (.tmp 78) rfl (w.heap.size + 1) (.slice pa c.length pc) c rfl HY.out.2.2.2.1 j rfl (by omega) HY.out.2.2.2.2.2 ?_; intro g2 c2 w5 hown5 hg5 hgr5))
          have hvb : ∀ b, (Value.slice pa c.length pc).ownBlock = some b → w.heap.size + 1 ≤ b := fun b e => (World.ownsRow.lt HY.out.2.2.2.1 b e).1
          have hm5 := HY.out.1.kept hgr5 (fun b e e2 => by
            have h1 := hvb b e
            have h2 : g0 = b := by simpa [Value.ownBlock] using e2
            omega) (fun i hi b e e2 => by
            have h1 := hvb b e
            have h2 := HS2.out.2.2.1 i (by rw [← HY.out.2.1.len]; exact hi) b e2
            omega)
          have hbx5 := grown_cell hgr5 hbx4 (fun e => by
            have h1 : w.heap.size + 1 ≤ w.heap.size := hvb _ e.symm
            omega)
          have hb5 := HY.out.2.2.2.2.1.grown hgr5 (Nat.le_trans hbase (Nat.le_trans (Nat.le_succ _) HY.out.2.2.2.2.2)) (fun b e => by have h1 := hvb b e; omega)
          exact ⟨⟨j + 1, rs1, N, c ++ [j], ml p fac1 x, by go_num, rfl, by omega, hm5, hown5, HY.out.2.1, by rw [HY.out.2.2.1]; exact HP.out.1, by rw [HY.out.2.2.1]; exact HP.out.2.1, HT.out.2.2.2.2, by rw [HY.out.2.2.1]; exact HP.out.2.2, HS2.out.2.2.1, hbx5, hb5, Nat.le_trans HY.out.2.2.2.2.2 hgr5.size⟩, by simp [intOf]; omega⟩
      · obtain rfl : k = m := by omega
        have i8 : ((k : Int) == (k : Int)) = true := by simp
        have hsk := HW.out.2.2.1.skip (fun i h1 h2 => by
          have := hz i h1 h2
          unfold mf; rw [this, ph_zero HM.out.2.2.1])
        have HS := Lib.hid hsk
        clear hsk hz hx
        go_wp2
        exact ⟨⟨j + 1, rs, L, c, fac, by go_num, rfl, by omega, HW.out.1, HW.out.2.2.2.2.1, HW.out.2.1, HS.out, HW.out.2.2.2.1, HW.out.2.2.2.2.2.2.2.2.2.1, HW.out.2.2.2.2.2.2.2.2.1, HW.out.2.2.2.2.2.1, hbx, HW.out.2.2.2.2.2.2.1, HW.out.2.2.2.2.2.2.2.1⟩, by simp [intOf]; omega⟩
    · obtain rfl : j = n := by omega
      have HW := Lib.hid (And.intro hm (And.intro hmt (And.intro hpart (And.intro hops (And.intro hci (And.intro hb (And.intro hdet hfr)))))))
      clear hm hmt hpart hops hci hrs hb hdet hfr
      go_wp2
      refine bodyPost_ret (results_tmp2 rfl _ _ _) rfl ?_
      have hml := HM.out.2.2.2.2.1
      subst hml
      exact ⟨_, rs, L, c, fac, rfl, HW.out.1, OwI.low HW.out.2.2.2.2.1 (Nat.le_succ _), ⟨HW.out.2.1, HW.out.2.2.1, HW.out.2.2.2.1⟩, HW.out.2.2.2.2.2.2.2, HW.out.2.2.2.2.2.2.1, HW.out.2.2.2.2.2.1⟩
end Go.Proofs.Ytdcdaclkeocfpaa
