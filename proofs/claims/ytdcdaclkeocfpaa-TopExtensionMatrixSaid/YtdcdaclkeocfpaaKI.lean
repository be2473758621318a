/- The walk of the reference's Kernel (05). -/
import Derived.Test.YtdcdaclkeocfpaaKH
namespace Go.Proofs.Ytdcdaclkeocfpaa
open Go.RowKit Go.BigFrame
open Classical

/-- The kernel's vector for column j after i pivots. -/
def kx (p : Int) (R : List (List Int)) (c : List Nat) (n j : Nat) : Nat → List Int
  | 0 => idRow n j
  | i + 1 => (kx p R c n j i).set (c.getD i 0) (sb p 0 ((R.getD i []).getD j 0))
theorem kx_len (p : Int) (R : List (List Int)) (c : List Nat) (n j : Nat) : ∀ i, (kx p R c n j i).length = n
  | 0 => by simp [kx, idRow]
  | i + 1 => by rw [kx, List.length_set]; exact kx_len p R c n j i
def kerTo (p : Int) (R : List (List Int)) (c : List Nat) (n k : Nat) : List (List Int) := ((List.range k).filter fun j => !c.contains j).map fun j => kx p R c n j c.length
theorem kerTo_free {p : Int} {R : List (List Int)} {c : List Nat} {n j : Nat} (h : c.contains j = false) : kerTo p R c n (j + 1) = kerTo p R c n j ++ [kx p R c n j c.length] := by
  unfold kerTo
  rw [List.range_succ, List.filter_append, List.map_append]
  simp only [List.filter_cons, h, Bool.not_false, if_true, List.filter_nil, List.map_cons, List.map_nil]
theorem kerTo_piv {p : Int} {R : List (List Int)} {c : List Nat} {n j : Nat} (h : c.contains j = true) : kerTo p R c n (j + 1) = kerTo p R c n j := by
  unfold kerTo
  rw [List.range_succ, List.filter_append, List.map_append]
  simp only [List.filter_cons, h, Bool.not_true, Bool.false_eq_true, if_false, List.filter_nil, List.map_nil, List.append_nil]
theorem kerTo_len (p : Int) (R : List (List Int)) (c : List Nat) (n k : Nat) : (kerTo p R c n k).length ≤ k := by
  unfold kerTo
  rw [List.length_map]
  exact Nat.le_trans (List.length_filter_le _ _) (by simp)
theorem Rrf.cols {p : Int} {M R : List (List Int)} {c : List Nat} (h : Rrf p M (cols M) R c) : Proofs.Ytdcdaclkeocfpaa.cols R = Proofs.Ytdcdaclkeocfpaa.cols M := by
  by_cases hm : 0 < R.length
  · rw [cols_at hm, h.mt.row 0 hm]
  · have h1 := h.mt.len
    have h2 : M = [] := List.length_eq_zero_iff.1 (by omega)
    have h3 : R = [] := List.length_eq_zero_iff.1 (by omega)
    rw [h2, h3]
theorem RedOf.facts {p : Int} {M R : List (List Int)} {c : List Nat} (h : RedOf p M R c) : cols R ≤ 64 ∧ R.length ≤ 64 ∧ c.length ≤ R.length ∧ (∀ i (hi : i < R.length), R[i].length = cols R) ∧ ∀ i (hi : i < c.length), c[i] < cols R := by
  by_cases hok : OkM p M
  · have h1 := h.1 hok
    have h2 := h1.cols
    have h3 := hok.2.cols
    refine ⟨by omega, by rw [h1.mt.len]; exact hok.2.2, by rw [h1.mt.len]; exact h1.part.len, fun i hi => by rw [h2]; exact h1.mt.row i hi, fun i hi => by rw [h2]; exact h1.part.lt i hi⟩
  · obtain ⟨rfl, rfl⟩ := h.2 hok
    exact ⟨by simp [cols], by simp, by simp, fun i hi => by simp at hi, fun i hi => by simp at hi⟩
theorem fr_succ (c : List Nat) (j : Nat) {i : Nat} (h : i < c.length) : (c.take (i + 1)).contains j = ((c.take i).contains j || (c[i] == j)) := by
  rw [List.take_succ_eq_append_getElem h, List.contains_append]
  congr 1
  rw [Bool.eq_iff_iff]
  simp
  exact eq_comm

theorem OwnM.keptR {w w' : World} {B : Nat} {v : Value} {rs : Nat → Value} {M : List (List Int)} (h : OwnM w (B + 1) v rs M) (k : w.grownBy w' (some B)) : OwnM w' (B + 1) v rs M :=
  h.kept k (fun g e e2 => by cases e; have := (h.outer.lt _ e2).1; omega) fun i hi g e e2 => by cases e; have := ((h.row i hi).row.lt _ e2).1; omega
theorem OwI.keptR {w w' : World} {B : Nat} {v : Value} {l : List Nat} (h : OwI w (B + 1) v l) (k : w.grownBy w' (some B)) : OwI w' (B + 1) v l :=
  h.kept k (.inr fun e => by have := (World.ownsRow.lt h _ e).1; omega)
theorem grown_over {w a b : World} {B : Nat} {r : Option Nat} (h : w.grownBy a (some B)) (k : a.grownBy b r) (hr : ∀ g, r = some g → g = B ∨ w.heap.size ≤ g) : w.grownBy b (some B) :=
  ⟨k.os.trans h.os, k.tape.trans h.tape, k.output.trans h.output, Nat.le_trans h.size k.size, fun i hi hne => by
    rw [k.block i (Nat.lt_of_lt_of_le hi h.size) (fun e => by
      rcases hr i (by first | exact e | exact e.symm) with e2 | e2
      · subst e2; exact hne rfl
      · omega)]
    exact h.block i hi hne⟩

set_option maxRecDepth 100000 in
set_option maxHeartbeats 8000000 in
theorem kKernel_u (p : Int) [_hpU : U p] (v : Value) (M : List (List Int)) (w : World) (hM : MatR w v M) (hn : M.length ≤ 100000) (hr : ∀ i (h : i < M.length), M[i].length ≤ 100000) :
    Calls Try.prog 27 #[.int .u64 p, v] w fun e w' => ∃ v1 rs R c, e = .returned v1 ∧ OwnM w' w.heap.size v1 rs (kerTo p R c (cols R) (cols R)) ∧ RedOf p M R c ∧ Below w.heap.size w w' := by
  obtain ⟨a0, c0, rfl⟩ := hM.shape
  have HM := Lib.hid (And.intro hM hr)
  clear hM hr
  go_enter Try.func27, Try.ntmps27
  go_upto_region 2 with fail
  have hbm : Below w.heap.size w (w.alloc (.cells #[] 36)) := Below.made (Nat.le_refl _) (Below.refl _ _) _
  have HE := Lib.hid (And.intro (empty_mat w w.heap.size (fun _ => undef) (Nat.le_refl _)) hbm)
  clear hbm
  go_wp2_with (go_at_call 20; refine (kReduce_u p _ M _ (HM.out.1.hold HE.out.2) hn HM.out.2).mono ?_; rintro _ w1 ⟨v1, v2, rsR, R, c, rfl, hR, hc, hred, hb1⟩)
  obtain ⟨aR, cR, rfl⟩ := hR.matR.shape
  obtain ⟨ac, cc, rfl⟩ := hc.lst.shape
  obtain ⟨f1, f2, f3, f4, f5⟩ := hred.facts
  have HR := Lib.hid (And.intro (hR.low (base' := w.heap.size + 1) (by simp)) (And.intro (hc.low (base' := w.heap.size + 1) (by simp)) (And.intro hred (And.intro f4 (And.intro f5 (And.intro (HE.out.1.hold hb1) (And.intro (Below.next (Nat.le_refl _) HE.out.2 hb1) (show w.heap.size < w1.heap.size by have := hb1.size; simp at this; omega))))))))
  clear hR hc hred hb1 f4 f5 HE
  obtain ⟨n, hnn⟩ : ∃ n, n = cols R := ⟨_, rfl⟩
  have HN := Lib.hid hnn
  rw [← hnn] at f1
  clear hnn
  have i1 : (n : Int) ≤ 64 := by omega
  rename World => w1
  go_loopw [5, 8] (fun ov jv wr => ∃ (j : Nat) (rs : Nat → Value), jv = .int .i64 j ∧ j ≤ n ∧ OwnM wr w.heap.size ov rs (kerTo p R c n j) ∧ (w1.grownBy wr (some w.heap.size) ∧ ∀ g, ov.ownBlock = some g → g = w.heap.size ∨ w1.heap.size ≤ g) ∧ Below w.heap.size w wr) (fun _ jv _ => n - (intOf jv).toNat)
  case atStart => exact ⟨0, _, rfl, Nat.zero_le _, HR.out.2.2.2.2.2.1, ⟨grown_below (Below.refl _ _), fun g e => .inl (by simpa [Value.ownBlock] using e.symm)⟩, HR.out.2.2.2.2.2.2.1⟩
  case round =>
    obtain ⟨j, rs, rfl, hj, hown, hb1, hb⟩ := hrel
    have i0 : (0 : Int) ≤ (j : Int) := by omega
    rename World => wo
    by_cases hlt : j < n
    · have i2 : (j : Int) < (n : Int) := by omega
      have HW := Lib.hid (And.intro hown (And.intro hb1 hb))
      clear hown hb1 hb
      go_upto_region 7 with (first
        | (go_at_call 41; refine (kColumns_u _ R _ (HR.out.1.keptR HW.out.2.1.1).matR (by omega)).mono ?_; rintro e wc ⟨rfl, hwc⟩; (obtain rfl : wo = wc := by first | exact hwc | exact hwc.symm); rw [← HN.out])
        | (at_make; (refine make_zeros rfl (.tmp 26) (.tmp 26) rfl wo.heap.size n rfl rfl (by omega) (Nat.le_refl _) ?_; intro vx wx hownx hvx hbx; subst hvx)))
      have hjl : j < (List.replicate n (0 : Int)).length := by simp; exact hlt
      have hc := hownx.cell hjl
      rw [List.getElem_replicate] at hc
      have hz := hownx.thawed j
      have hs := hownx.set j 1
      rw [idRow_set] at hs
      have hb2 := Below.wrote hbx (Nat.le_refl _) hbx.size hownx hs.2
      have HS := Lib.hid (And.intro hs.1 hb2)
      clear hs hb2 hownx hbx hjl hwc
      go_wp2_with fail
      go_loopw [10, 11] (fun fv iv wr => ∃ (i : Nat) (fb : Bool), iv = .int .i64 i ∧ fv = .bool fb ∧ i ≤ c.length ∧ fb = !(c.take i).contains j ∧ Own wr wo.heap.size (.slice (some ⟨wo.heap.size, 0, none⟩) n n) (kx p R c n j i) ∧ Below wo.heap.size wo wr) (fun _ iv _ => c.length - (intOf iv).toNat)
      case atStart => exact ⟨0, true, rfl, rfl, Nat.zero_le _, rfl, HS.out.1, HS.out.2⟩
      case round =>
        obtain ⟨i, fb, rfl, rfl, hi, hfb, hx, hbi⟩ := hrel
        have i3 : (0 : Int) ≤ (i : Int) := by omega
        by_cases hlc : i < c.length
        · have i4 : (i : Int) < (c.length : Int) := by omega
          have hRi : i < R.length := by omega
          obtain ⟨b, o, c1, rv, e, hcr, hlr⟩ := ((HR.out.1.keptR HW.out.2.1.1).matR.hold hbi).rows i hRi
          obtain ⟨rfl, rfl⟩ : aR = some ⟨b, o, none⟩ ∧ cR = c1 := by simp at e; exact e
          obtain ⟨b2, o2, c2, e2, hcp⟩ := ((HR.out.2.1.keptR HW.out.2.1.1).lst.hold hbi).cells i hlc
          obtain ⟨rfl, rfl⟩ : ac = some ⟨b2, o2, none⟩ ∧ cc = c2 := by simp at e2; exact e2
          have hrl := HR.out.2.2.2.1 i hRi
          rw [← HN.out] at hrl
          have hcn := HR.out.2.2.2.2.1 i hlc
          rw [← HN.out] at hcn
          obtain ⟨b3, o3, c3, e3, hcx⟩ := hlr.cells j (by omega)
          rw [e3] at hcr
          have hux := hlr.us R[i][j] (List.getElem_mem (by omega))
          have hkx : kx p R c n j (i + 1) = (kx p R c n j i).set c[i] (sb p 0 R[i][j]) := by
            rw [kx, Po.getD_nat hlc, getD_row hRi, getD_lt _ (by omega)]
          have hfs := fr_succ c j hlc
          have hcell := hx.cell (i := c[i]) (by rw [kx_len]; exact hcn)
          have hthaw := hx.thawed c[i]
          obtain ⟨x0, hx0⟩ : ∃ x0, x0 = (kx p R c n j i)[c[i]]'(by rw [kx_len]; exact hcn) := ⟨_, rfl⟩
          rw [← hx0] at hcell
          clear hx0
          obtain ⟨y, hy⟩ : ∃ y, y = R[i][j] := ⟨_, rfl⟩
          rw [← hy] at hux hcx hkx
          obtain ⟨t, ht⟩ : ∃ t, t = c[i] := ⟨_, rfl⟩
          rw [← ht] at hcp hkx hcell hthaw hcn hfs
          rw [hrl] at hcr
          have i5 : (0 : Int) ≤ (t : Int) := by omega
          have i6 : (t : Int) < (n : Int) := by omega
          have i7 : (i : Int) < (R.length : Int) := by omega
          have HV := Lib.hid (And.intro hx (And.intro hbi (And.intro hkx (And.intro hfs hfb))))
          clear hx hbi hkx hfs hfb hy ht e e2 e3 hlr hrl hRi
          cases fb with
          | false =>
            go_wp2_with fail
            have k0 := fun q : NwAt wr => q.nw.hold hcr
            have k1 := fun q : NwAt wr => q.nw.hold hcp
            have k2 := fun q : NwAt wr => q.nw.hold hcx
            have k3 := fun q : NwAt wr => q.nw.hold hcell
            have k4 := fun q : NwAt wr => q.nw.holdf hthaw
            refine from_here ?_
            intro q
            refine wp_region_nwt 15 (by kernel_rfl) (by kernel_rfl) ?_
            simp only [List.take_succ_cons, List.take_zero, List.drop_succ_cons, List.drop_zero]
            repeat (go_big_quiet_step ((first | (go_at_call 69; exact nwAt_of (rNeg_u _ _ _)))))
            refine wpQuiet_nil ?_
            clear q
            rintro _ ⟨q, rfl⟩
            have j3 := k3 q
            have j4 := k4 q
            clear k0 k1 k2 k3 k4
            have hs := (HV.out.1.hold q.nw.b).set t (sb p 0 y)
            rw [← HV.out.2.2.1] at hs
            have HSet := Lib.hid (And.intro hs.1 (Below.wrote (Below.next (Nat.le_refl _) HV.out.2.1 q.nw.b) (Nat.le_refl _) (Nat.le_trans HV.out.2.1.size q.nw.b.size) (HV.out.1.hold q.nw.b) hs.2))
            clear hs
            go_wp2
            exact ⟨⟨i + 1, false, by go_num, rfl, by omega, by rw [HV.out.2.2.2.1, Bool.not_or, ← HV.out.2.2.2.2]; rfl, HSet.out.1, HSet.out.2⟩, by simp [intOf]; omega⟩
          | true =>
            by_cases htj : t = j
            · have i8 : ((t : Int) != (j : Int)) = false := by simp [htj]
              have i9 : (t == j) = true := by simp [htj]
              have HT := Lib.hid i9
              clear htj i9
              go_wp2_with fail
              have k0 := fun q : NwAt wr => q.nw.hold hcr
              have k1 := fun q : NwAt wr => q.nw.hold hcp
              have k2 := fun q : NwAt wr => q.nw.hold hcx
              have k3 := fun q : NwAt wr => q.nw.hold hcell
              have k4 := fun q : NwAt wr => q.nw.holdf hthaw
              refine from_here ?_
              intro q
              refine wp_region_nwt 15 (by kernel_rfl) (by kernel_rfl) ?_
              simp only [List.take_succ_cons, List.take_zero, List.drop_succ_cons, List.drop_zero]
              repeat (go_big_quiet_step ((first | (go_at_call 69; exact nwAt_of (rNeg_u _ _ _)))))
              refine wpQuiet_nil ?_
              clear q
              rintro _ ⟨q, rfl⟩
              have j3 := k3 q
              have j4 := k4 q
              clear k0 k1 k2 k3 k4
              have hs := (HV.out.1.hold q.nw.b).set t (sb p 0 y)
              rw [← HV.out.2.2.1] at hs
              have HSet := Lib.hid (And.intro hs.1 (Below.wrote (Below.next (Nat.le_refl _) HV.out.2.1 q.nw.b) (Nat.le_refl _) (Nat.le_trans HV.out.2.1.size q.nw.b.size) (HV.out.1.hold q.nw.b) hs.2))
              clear hs
              go_wp2
              exact ⟨⟨i + 1, false, by go_num, rfl, by omega, by rw [HV.out.2.2.2.1, Bool.not_or, ← HV.out.2.2.2.2, HT.out]; rfl, HSet.out.1, HSet.out.2⟩, by simp [intOf]; omega⟩
            · have i8 : ((t : Int) != (j : Int)) = true := by simp; omega
              have i9 : (t == j) = false := by simpa using htj
              have HT := Lib.hid i9
              clear htj i9
              go_wp2_with fail
              have k0 := fun q : NwAt wr => q.nw.hold hcr
              have k1 := fun q : NwAt wr => q.nw.hold hcp
              have k2 := fun q : NwAt wr => q.nw.hold hcx
              have k3 := fun q : NwAt wr => q.nw.hold hcell
              have k4 := fun q : NwAt wr => q.nw.holdf hthaw
              refine from_here ?_
              intro q
              refine wp_region_nwt 15 (by kernel_rfl) (by kernel_rfl) ?_
              simp only [List.take_succ_cons, List.take_zero, List.drop_succ_cons, List.drop_zero]
              repeat (go_big_quiet_step ((first | (go_at_call 69; exact nwAt_of (rNeg_u _ _ _)))))
              refine wpQuiet_nil ?_
              clear q
              rintro _ ⟨q, rfl⟩
              have j3 := k3 q
              have j4 := k4 q
              clear k0 k1 k2 k3 k4
              have hs := (HV.out.1.hold q.nw.b).set t (sb p 0 y)
              rw [← HV.out.2.2.1] at hs
              have HSet := Lib.hid (And.intro hs.1 (Below.wrote (Below.next (Nat.le_refl _) HV.out.2.1 q.nw.b) (Nat.le_refl _) (Nat.le_trans HV.out.2.1.size q.nw.b.size) (HV.out.1.hold q.nw.b) hs.2))
              clear hs
              go_wp2
              exact ⟨⟨i + 1, true, by go_num, rfl, by omega, by rw [HV.out.2.2.2.1, Bool.not_or, ← HV.out.2.2.2.2, HT.out]; rfl, HSet.out.1, HSet.out.2⟩, by simp [intOf]; omega⟩
        · obtain rfl : c.length = i := by omega
          rw [List.take_of_length_le (Nat.le_refl _)] at hfb
          have hkl := kerTo_len p R c n j
          obtain ⟨X, hX⟩ : ∃ X, X = kx p R c n j c.length := ⟨_, rfl⟩
          have hXl : X.length = n := by rw [hX, kx_len]
          rw [← hX] at hx
          cases fb with
          | false =>
            have hcj : c.contains j = true := by simpa using hfb
            have hks := kerTo_piv (p := p) (R := R) (n := n) hcj
            have HV := Lib.hid (And.intro hbi hks)
            clear hx hbi hfb hX hXl hcj hks hkl
            go_wp2_with fail
            exact ⟨⟨j + 1, rs, by go_num, by omega, by rw [HV.out.2]; exact HW.out.1.hold HV.out.1, ⟨grown_next HW.out.2.1.1 HV.out.1, HW.out.2.1.2⟩, Below.next (Nat.le_refl _) HW.out.2.2 HV.out.1⟩, by simp [intOf]; omega⟩
          | true =>
            have hcj : c.contains j = false := by simpa using hfb
            have hks := kerTo_free (p := p) (R := R) (n := n) hcj
            rw [← hX] at hks
            have HV := Lib.hid (And.intro hx (And.intro hbi (And.intro hks hkl)))
            clear hx hbi hfb hX hXl hcj hks hkl
            go_wp2_with (at_builtin; refine append_mat rfl (.tmp 62) (.tmp 64) rfl w.heap.size u5 rs (kerTo p R c n j) rfl (HW.out.1.hold HV.out.2.1) _ X (HV.out.1.low HW.out.2.2.size) (HW.out.1.fresh HV.out.1).1 (HW.out.1.fresh HV.out.1).2 rfl (by have := HV.out.2.2.2; omega) (Nat.le_trans HW.out.2.2.size HV.out.2.1.size) ?_; intro g2 c2 w2 hown2 hg3 hg2)
            rw [← HV.out.2.2.1] at hown2
            refine ⟨⟨j + 1, _, by go_num, by omega, hown2, ?_, (Below.next (Nat.le_refl _) HW.out.2.2 HV.out.2.1).grown hg2 (Nat.le_trans HW.out.2.2.size HV.out.2.1.size) (fun b e => (HW.out.1.outer.lt b e).1)⟩, by simp [intOf]; omega⟩
            have hsz := Nat.le_trans HW.out.2.1.1.size HV.out.2.1.size
            refine ⟨grown_over (grown_next HW.out.2.1.1 HV.out.2.1) hg2 HW.out.2.1.2, fun g e => ?_⟩
            obtain rfl : g2 = g := by simpa [Value.ownBlock] using e
            rcases hg3 with e3 | e3
            · exact HW.out.2.1.2 _ e3
            · exact .inr (by omega)
    · obtain rfl : n = j := by omega
      have HW := Lib.hid (And.intro hown (And.intro hb1 hb))
      clear hown hb hb1
      go_wp2_with (go_at_call 41; refine (kColumns_u _ R _ (HR.out.1.keptR HW.out.2.1.1).matR (by omega)).mono ?_; rintro e wc ⟨rfl, rfl⟩; rw [← HN.out])
      go_ret
      exact ⟨_, rs, R, c, rfl, by rw [← HN.out]; exact HW.out.1, HR.out.2.2.1, HW.out.2.2⟩
end Go.Proofs.Ytdcdaclkeocfpaa
