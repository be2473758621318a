/- The chapter's examples (05), and the walk of the function that checks them. The walk of the statement on determinants. The walk of the statement on Multiply and Apply. -/
import Derived.Test.YtdcdaclkeocfpaaQY
import Derived.Deep.DeepCutAuto
namespace Go.Proofs.Ytdcdaclkeocfpaa
open Go.RowKit Go.BigFrame

def exM : List (List Int) := [[2, 4], [1, 3]]
def exN : List (List Int) := [[1, 2, 3], [2, 4, 7]]
theorem vld_of {M : List (List Int)} (n : Nat) (h : M.all (fun r => r.length == n) = true) (hc : cols M = n) (hl : M.length ≤ 64) (hn : n ≤ 64) : Vld M :=
  ⟨fun i hi => by
    have := List.all_eq_true.1 h _ (List.getElem_mem hi)
    have e : M[i].length = n := by simpa using this
    rw [e, hc]; exact ⟨rfl, hn⟩, hl⟩
theorem ex_okM : OkM 17 exM := ⟨rfl, vld_of 2 rfl rfl (by decide) (by decide)⟩
theorem ex_okN : OkM 17 exN := ⟨rfl, vld_of 3 rfl rfl (by decide) (by decide)⟩
theorem ex_det : detI 17 exM = 2 := by
  unfold detI
  rw [if_pos ⟨ex_okM, rfl⟩]
  decide +kernel
theorem mt_of {p : Int} {m n : Nat} {L : List (List Int)} (hl : L.length = m) (h : L.all (fun r => r.length == n && r.all fun y => decide (0 ≤ y) && decide (y < p)) = true) : Mt p m n L := by
  have h1 : ∀ i (hi : i < L.length), (L[i].length == n && L[i].all fun y => decide (0 ≤ y) && decide (y < p)) = true := fun i hi => List.all_eq_true.1 h _ (List.getElem_mem hi)
  refine ⟨hl, fun i hi => ?_, fun i hi y hy => ?_⟩
  · have := h1 i hi
    rw [Bool.and_eq_true] at this
    simpa using this.1
  · have := h1 i hi
    rw [Bool.and_eq_true] at this
    have h2 := List.all_eq_true.1 this.2 y hy
    simpa using h2
theorem ex_inv : InvOf 17 exM true [[10, 15], [8, 1]] :=
  ⟨fun h => absurd ⟨ex_okM, rfl⟩ h, fun _ _ => .inl ⟨rfl, mt_of rfl (by decide +kernel), by decide +kernel⟩⟩
theorem ex_ker (x : Nat → Fin (Q 17)) : Po.Ker 2 3 (mf 17 exN) x ↔ Po.Ker 2 3 (mf 17 [[1, 2, 0], [0, 0, 1]]) x := by
  have e : ∀ (L : List (List Int)) i, Po.ap 3 (mf 17 L) x i = 0 + mf 17 L i 0 * x 0 + mf 17 L i 1 * x 1 + mf 17 L i 2 * x 2 := fun _ _ => rfl
  have a00 : mf 17 exN 0 0 = 1 := by decide +kernel
  have a01 : mf 17 exN 0 1 = 2 := by decide +kernel
  have a02 : mf 17 exN 0 2 = 3 := by decide +kernel
  have a10 : mf 17 exN 1 0 = 2 := by decide +kernel
  have a11 : mf 17 exN 1 1 = 4 := by decide +kernel
  have a12 : mf 17 exN 1 2 = 7 := by decide +kernel
  have b00 : mf 17 [[1, 2, 0], [0, 0, 1]] 0 0 = 1 := by decide +kernel
  have b01 : mf 17 [[1, 2, 0], [0, 0, 1]] 0 1 = 2 := by decide +kernel
  have b02 : mf 17 [[1, 2, 0], [0, 0, 1]] 0 2 = 0 := by decide +kernel
  have b10 : mf 17 [[1, 2, 0], [0, 0, 1]] 1 0 = 0 := by decide +kernel
  have b11 : mf 17 [[1, 2, 0], [0, 0, 1]] 1 1 = 0 := by decide +kernel
  have b12 : mf 17 [[1, 2, 0], [0, 0, 1]] 1 2 = 1 := by decide +kernel
  constructor
  · intro h i hi
    have h0 := h 0 (by omega)
    have h1 := h 1 (by omega)
    rw [e, a00, a01, a02] at h0
    rw [e, a10, a11, a12] at h1
    rcases (show i = 0 ∨ i = 1 by omega) with rfl | rfl
    · rw [e, b00, b01, b02]; grind
    · rw [e, b10, b11, b12]; grind
  · intro h i hi
    have h0 := h 0 (by omega)
    have h1 := h 1 (by omega)
    rw [e, b00, b01, b02] at h0
    rw [e, b10, b11, b12] at h1
    rcases (show i = 0 ∨ i = 1 by omega) with rfl | rfl
    · rw [e, a00, a01, a02]; grind
    · rw [e, a10, a11, a12]; grind
theorem ex_red : RedOf 17 exN [[1, 2, 0], [0, 0, 1]] [0, 2] := by
  refine ⟨fun _ => ⟨mt_of rfl (by decide +kernel), ⟨by decide, by decide, by decide, by decide +kernel, by decide +kernel, fun i h1 h2 => ?_⟩, fun x => ?_⟩, fun h => absurd ex_okN h⟩
  · have : i < 2 := h2
    have : 2 ≤ i := h1
    omega
  · exact ex_ker x
theorem ex_kerTo : kerTo 17 [[1, 2, 0], [0, 0, 1]] [0, 2] (cols [[1, 2, 0], [0, 0, 1]]) (cols [[1, 2, 0], [0, 0, 1]]) = [[15, 1, 0]] := by decide +kernel
theorem mf_op {p : Int} {L : List (List Int)} {i s : Nat} {r : List Int} {c : Fin (Q p)} (hi : i < L.length) (h : (fun l => ph p (r.getD l 0)) = fun j => mf p L i j + c * mf p L s j) : mf p (L.set i r) = Po.rowSet (mf p L) i fun j => mf p L i j + c * mf p L s j := by rw [mf_set hi, h]
theorem mf_sc {p : Int} {L : List (List Int)} {i : Nat} {r : List Int} {c : Fin (Q p)} (hi : i < L.length) (h : (fun l => ph p (r.getD l 0)) = fun j => c * mf p L i j) : mf p (L.set i r) = Po.rowSet (mf p L) i fun j => c * mf p L i j := by rw [mf_set hi, h]
theorem ex_ops : Po.Ops 2 (mf 17 [[2, 4, 6], [1, 3, 4]]) (mf 17 [[1, 0, 1], [0, 1, 1]]) := by
  have e1 := mf_sc (p := 17) (L := [[2, 4, 6], [1, 3, 4]]) (i := 0) (r := [1, 2, 3]) (c := 9) (by decide) (funext fun l => by
    match l with
    | 0 => decide +kernel
    | 1 => decide +kernel
    | 2 => decide +kernel
    | n + 3 => show ph 17 0 = 9 * ph 17 0; decide +kernel)
  have e2 := mf_op (p := 17) (L := [[1, 2, 3], [1, 3, 4]]) (i := 1) (s := 0) (r := [0, 1, 1]) (c := 16) (by decide) (funext fun l => by
    match l with
    | 0 => decide +kernel
    | 1 => decide +kernel
    | 2 => decide +kernel
    | n + 3 => show ph 17 0 = ph 17 0 + 16 * ph 17 0; decide +kernel)
  have e3 := mf_op (p := 17) (L := [[1, 2, 3], [0, 1, 1]]) (i := 0) (s := 1) (r := [1, 0, 1]) (c := 15) (by decide) (funext fun l => by
    match l with
    | 0 => decide +kernel
    | 1 => decide +kernel
    | 2 => decide +kernel
    | n + 3 => show ph 17 0 = ph 17 0 + 15 * ph 17 0; decide +kernel)
  have o1 : Po.Ops 2 (mf 17 [[2, 4, 6], [1, 3, 4]]) (mf 17 ([[2, 4, 6], [1, 3, 4]].set 0 [1, 2, 3])) := by
    rw [e1]; exact Po.Ops.refl.scale (d := 2) (by decide) (by decide +kernel)
  have o2 : Po.Ops 2 (mf 17 [[1, 2, 3], [1, 3, 4]]) (mf 17 ([[1, 2, 3], [1, 3, 4]].set 1 [0, 1, 1])) := by
    rw [e2]; exact Po.Ops.refl.add (by decide) (by decide) (by decide)
  have o3 : Po.Ops 2 (mf 17 [[1, 2, 3], [0, 1, 1]]) (mf 17 ([[1, 2, 3], [0, 1, 1]].set 0 [1, 0, 1])) := by
    rw [e3]; exact Po.Ops.refl.add (by decide) (by decide) (by decide)
  exact (o1.trans o2).trans o3
theorem ex_sol : SolOf 17 exM [6, 4] true [1, 1] := by
  refine ⟨fun h => absurd ⟨ex_okM, rfl⟩ h, fun _ _ => ⟨[[1, 0, 1], [0, 1, 1]], [0, 1], ⟨mt_of rfl (by decide +kernel), ⟨by decide, by decide, by decide, by decide +kernel, by decide +kernel, fun i h1 h2 => ?_⟩, ex_ops⟩, .inl ⟨rfl, by decide, by decide +kernel⟩⟩⟩
  have : i < 2 := h2
  have : 2 ≤ i := h1
  omega

theorem litN {w : World} (l : List Int) (hl : l.length ≤ 1000000) (hu : Us l) : Lst (w.alloc (.cells (vs l).toArray 22)) (.slice (some ⟨w.heap.size, 0, none⟩) l.length l.length) l :=
  (own_of (base := w.heap.size) (Nat.le_refl _) (heap_alloc_new w _) hl hu).lst
theorem us_lit {l : List Int} (h : l.all (fun x => decide (0 ≤ x) && decide (x ≤ 1000)) = true) : Us l := fun x hx => by
  have := List.all_eq_true.1 h x hx
  simp at this
  exact ⟨this.1, by omega⟩
theorem mat_one {w : World} {r : Value} {R : List Int} (hr : Lst w r R) : MatR (w.alloc (.cells #[r] 36)) (.slice (some ⟨w.heap.size, 0, none⟩) 1 1) [R] := by
  have hb : Below w.heap.size w (w.alloc (.cells #[r] 36)) := Below.made (Nat.le_refl _) (Below.refl _ _) _
  refine ⟨.inr ⟨_, _, rfl⟩, fun i hi => ?_⟩
  match i, hi with
  | 0, _ => exact ⟨_, 0, 1, r, rfl, by go_simp, hr.hold hb⟩
theorem mat_two {w : World} {r s : Value} {R S : List Int} (hr : Lst w r R) (hs : Lst w s S) : MatR (w.alloc (.cells #[r, s] 36)) (.slice (some ⟨w.heap.size, 0, none⟩) 2 2) [R, S] := by
  have hb : Below w.heap.size w (w.alloc (.cells #[r, s] 36)) := Below.made (Nat.le_refl _) (Below.refl _ _) _
  refine ⟨.inr ⟨_, _, rfl⟩, fun i hi => ?_⟩
  match i, hi with
  | 0, _ => exact ⟨_, 0, 2, r, rfl, by go_simp, hr.hold hb⟩
  | 1, _ => exact ⟨_, 0, 2, s, rfl, by go_simp, hs.hold hb⟩
theorem lit_two {w : World} (l m : List Int) (hl : l.length ≤ 1000000) (hm : m.length ≤ 1000000) (ul : Us l) (um : Us m) :
    MatR (((w.alloc (.cells (vs l).toArray 22)).alloc (.cells (vs m).toArray 22)).alloc (.cells #[.slice (some ⟨w.heap.size, 0, none⟩) l.length l.length, .slice (some ⟨w.heap.size + 1, 0, none⟩) m.length m.length] 36)) (.slice (some ⟨w.heap.size + 1 + 1, 0, none⟩) 2 2) [l, m] := by
  have h1 : Lst ((w.alloc (.cells (vs l).toArray 22)).alloc (.cells (vs m).toArray 22)) (.slice (some ⟨w.heap.size, 0, none⟩) l.length l.length) l := (litN l hl ul).hold (Below.made (Nat.le_refl _) (Below.refl _ _) _)
  have h2 : Lst ((w.alloc (.cells (vs l).toArray 22)).alloc (.cells (vs m).toArray 22)) (.slice (some ⟨w.heap.size + 1, 0, none⟩) m.length m.length) m := by
    have h := litN (w := w.alloc (.cells (vs l).toArray 22)) m hm um
    simpa using h
  have h := mat_two h1 h2
  simpa using h

set_option maxRecDepth 100000 in
set_option maxHeartbeats 8000000 in
theorem awake5_u (w : World) : Calls Try.prog 16 #[] w fun e w' => e = .returned (.bool true) ∧ Below w.heap.size w w' := by
  have u17 : U 17 := inferInstance
  go_enter Try.func16, Try.ntmps16
  go_upto_region 3 with fail
  refine name_world ?_
  intro W hW
  have hf : W.cell? ⟨w.heap.size, 0, none⟩ = some (.int .u64 17) := by rw [hW]; go_simp
  have hb : Below w.heap.size w W := by rw [hW]; exact Below.made (Nat.le_refl _) (Below.made (Nat.le_refl _) (Below.made (Nat.le_refl _) (Below.made (Nat.le_refl _) (Below.refl _ _) _) _) _) _
  have hM : MatR W (.slice (some ⟨w.heap.size + 1 + 1 + 1, 0, none⟩) 2 2) exM := by
    rw [hW]
    have h := lit_two (w := w.alloc (.cells #[.int .u64 17] 27)) [2, 4] [1, 3] (by decide) (by decide) (us_lit (by decide)) (us_lit (by decide))
    simp at h; exact h
  have HM := Lib.hid (And.intro hM hb)
  clear hW hM hb
  go_upto_region 4 with (go_at_call 30; refine (mInverse_p 17 _ exM W HM.out.1 (by decide) (by decide)).mono ?_; rintro _ w1 ⟨v1, fb, X, rfl, hX, hinv, hb1⟩)
  obtain ⟨rfl, rfl⟩ := hinv.unique ex_inv
  have f1 := Below.hold hb1 hf
  have H1 := Lib.hid (And.intro hX hb1)
  clear hX hinv hb1 hf
  go_upto_region 5 with (go_at_call 18; refine (mReduce_p 17 _ exN _ (by have h := lit_two (w := w1) [1, 2, 3] [2, 4, 7] (by decide) (by decide) (us_lit (by decide)) (us_lit (by decide)); simp at h; exact h) (by decide) (by decide)).mono ?_; rintro _ w2 ⟨v2, v3, R, c, rfl, hR, hc, hred, hb2⟩)
  obtain ⟨rfl, rfl⟩ := hred.unique ex_red
  have hb2' : Below w1.heap.size w1 w2 := Below.next (Nat.le_refl _) (Below.made (Nat.le_refl _) (Below.made (Nat.le_refl _) (Below.made (Nat.le_refl _) (Below.refl _ _) _) _) _) hb2
  have f2 := Below.hold hb2' f1
  have H2 := Lib.hid (And.intro hR (And.intro hc hb2'))
  clear hR hc hred hb2 hb2' f1
  go_upto_region 6 with (go_at_call 26; refine (mKernel_p 17 _ exN _ (by have h := lit_two (w := w2) [1, 2, 3] [2, 4, 7] (by decide) (by decide) (us_lit (by decide)) (us_lit (by decide)); simp at h; exact h) (by decide) (by decide)).mono ?_; rintro _ w3 ⟨v4, R, c, rfl, hK, hred, hb3⟩)
  obtain ⟨rfl, rfl⟩ := hred.unique ex_red
  rw [ex_kerTo] at hK
  have hb3' : Below w2.heap.size w2 w3 := Below.next (Nat.le_refl _) (Below.made (Nat.le_refl _) (Below.made (Nat.le_refl _) (Below.made (Nat.le_refl _) (Below.refl _ _) _) _) _) hb3
  have f3 := Below.hold hb3' f2
  have H3 := Lib.hid (And.intro hK hb3')
  clear hK hred hb3 hb3' f2
  have HM3 := Lib.hid (((HM.out.1.hold H1.out.2).hold H2.out.2.2).hold H3.out.2)
  go_upto_region 7 with (go_at_call 23; refine (mSolve_p 17 _ _ exM [6, 4] _ (HM3.out.hold (Below.made (Nat.le_refl _) (Below.refl _ _) _)) (litN (w := w3) [6, 4] (by decide) (us_lit (by decide))) (by decide) (by decide) (by decide)).mono ?_; rintro _ w4 ⟨v5, fb, X, rfl, hX, hsol, hb4⟩)
  obtain ⟨rfl, rfl⟩ := hsol.unique ex_sol
  have hb4' : Below w3.heap.size w3 w4 := Below.next (Nat.le_refl _) (Below.made (Nat.le_refl _) (Below.refl _ _) _) hb4
  have f4 := Below.hold hb4' f3
  have HM4 := Lib.hid (HM3.out.hold hb4')
  have HV := Lib.hid (H1.out.1.hold (Below.next (Nat.le_refl _) (Below.next (Nat.le_refl _) H2.out.2.2 H3.out.2) hb4'))
  have hR4 := H2.out.1.hold (Below.next (Nat.le_refl _) H3.out.2 hb4')
  have hc4 := H2.out.2.1.hold (Below.next (Nat.le_refl _) H3.out.2 hb4')
  have hK4 := H3.out.1.hold hb4'
  obtain ⟨cb, co, cc, e3, hc40⟩ := hc4.cells 0 (by decide)
  obtain ⟨cb', co', cc', e3', hc41⟩ := hc4.cells 1 (by decide)
  subst e3
  obtain ⟨⟨rfl, rfl⟩, rfl⟩ : (cb = cb' ∧ co = co') ∧ cc = cc' := by simpa using e3'
  clear e3'
  have hBB := Below.next (Nat.le_refl _) (Below.next (Nat.le_refl _) (Below.next (Nat.le_refl _) (Below.next (Nat.le_refl _) HM.out.2 H1.out.2) H2.out.2.2) H3.out.2) hb4'
  have HR := Lib.hid (And.intro hR4 (And.intro hc40 (And.intro hc41 (And.intro hK4 (And.intro hX hBB)))))
  clear hX hsol hb4 hb4' f3 hR4 hc4 hc40 hc41 hK4 hBB HM3 H1 H2 H3 HM
  go_wp2_with (first
    | (go_at_call 34; refine (mDeterminant_p 17 _ exM _ HM4.out (by decide) (by decide)).mono ?_; rintro _ w5 ⟨rfl, hb5⟩; rw [ex_det])
    | (go_at_call 21; (with_reducible show Calls _ _ #[v1, _] _ _); refine (kSame_b v1 _ [[10, 15], [8, 1]] [[10, 15], [8, 1]] _ (HV.out.hold (Below.next (Nat.le_refl _) hb5 (Below.made (Nat.le_refl _) (Below.made (Nat.le_refl _) (Below.made (Nat.le_refl _) (Below.refl _ _) _) _) _))) (by have h := lit_two (w := w5) [10, 15] [8, 1] (by decide) (by decide) (us_lit (by decide)) (us_lit (by decide)); simp at h; exact h) (by decide) (by decide) (by decide) (by decide)).mono ?_; rintro _ w6 ⟨rfl, hb6⟩; rw [decide_eq_true (rfl : ([[10, 15], [8, 1]] : List (List Int)) = [[10, 15], [8, 1]])]; have g6 := Below.next (Nat.le_refl _) (Below.next (Nat.le_refl _) hb5 (Below.made (Nat.le_refl _) (Below.made (Nat.le_refl _) (Below.made (Nat.le_refl _) (Below.refl _ _) _) _) _)) hb6)
    | (go_at_call 21; (with_reducible show Calls _ _ #[v2, _] _ _); refine (kSame_b v2 _ [[1, 2, 0], [0, 0, 1]] [[1, 2, 0], [0, 0, 1]] _ (HR.out.1.hold (Below.next (Nat.le_refl _) g6 (Below.made (Nat.le_refl _) (Below.made (Nat.le_refl _) (Below.made (Nat.le_refl _) (Below.refl _ _) _) _) _))) (by have h := lit_two (w := w6) [1, 2, 0] [0, 0, 1] (by decide) (by decide) (us_lit (by decide)) (us_lit (by decide)); simp at h; exact h) (by decide) (by decide) (by decide) (by decide)).mono ?_; rintro _ w7 ⟨rfl, hb7⟩; rw [decide_eq_true (rfl : ([[1, 2, 0], [0, 0, 1]] : List (List Int)) = [[1, 2, 0], [0, 0, 1]])]; have g7 := Below.next (Nat.le_refl _) (Below.next (Nat.le_refl _) g6 (Below.made (Nat.le_refl _) (Below.made (Nat.le_refl _) (Below.made (Nat.le_refl _) (Below.refl _ _) _) _) _)) hb7; have m0 : w7.cell? ⟨cb, co, none⟩ = some (.int .i64 0) := Below.hold g7 HR.out.2.1; have m1 : w7.cell? ⟨cb, co + 1, none⟩ = some (.int .i64 2) := Below.hold g7 HR.out.2.2.1)
    | (go_at_call 21; (with_reducible show Calls _ _ #[v4, _] _ _); refine (kSame_b v4 _ [[15, 1, 0]] [[15, 1, 0]] _ (HR.out.2.2.2.1.hold (Below.next (Nat.le_refl _) g7 (Below.made (Nat.le_refl _) (Below.made (Nat.le_refl _) (Below.refl _ _) _) _))) (by have h := mat_one (litN (w := w7) [15, 1, 0] (by decide) (us_lit (by decide))); simp at h; exact h) (by decide) (by decide) (by decide) (by decide)).mono ?_; rintro _ w8 ⟨rfl, hb8⟩; rw [decide_eq_true (rfl : ([[15, 1, 0]] : List (List Int)) = [[15, 1, 0]])]; have g8 := Below.next (Nat.le_refl _) (Below.next (Nat.le_refl _) g7 (Below.made (Nat.le_refl _) (Below.made (Nat.le_refl _) (Below.refl _ _) _) _)) hb8)
    | (go_at_call 25; refine (rSame_b v5 _ [1, 1] [1, 1] _ (HR.out.2.2.2.2.1.hold (Below.next (Nat.le_refl _) g8 (Below.made (Nat.le_refl _) (Below.refl _ _) _))) (by have h := litN (w := w8) [1, 1] (by decide) (us_lit (by decide)); exact h) (by decide) (by decide)).mono ?_; rintro _ w9 ⟨rfl, hb9⟩; rw [decide_eq_true (rfl : ([1, 1] : List Int) = [1, 1])]; have g9 := Below.next (Nat.le_refl _) (Below.next (Nat.le_refl _) g8 (Below.made (Nat.le_refl _) (Below.refl _ _) _)) hb9)
    | fail)
  go_ret
  exact ⟨rfl, Below.next (Nat.le_refl _) HR.out.2.2.2.2.2 g9⟩

theorem mValid_p (v : Value) (M : List (List Int)) (w : World) (hM : MatR w v M) (hn : M.length ≤ 100) (hr : ∀ i (h : i < M.length), M[i].length ≤ 100) :
    Calls Try.prog 44 #[v] w fun e w' => e = .returned (.bool (@decide (Vld M) (Classical.propDecidable _))) ∧ Below w.heap.size w w' :=
  (mValid_u v M w hM (by omega) (fun i h => Nat.le_trans (hr i h) (by decide))).mono fun _ _ ⟨e, h⟩ => ⟨e, h.b⟩
end Go.Proofs.Ytdcdaclkeocfpaa

namespace Go.Proofs.Ytdcdaclkeocfpaa
open Go.RowKit Go.BigFrame
open Classical

theorem Sml.rows {M : List (List Int)} {k : Nat} (h : Sml M k) {m : Nat} (hk : k ≤ m) : M.length ≤ m ∧ ∀ i (g : i < M.length), M[i].length ≤ m := ⟨Nat.le_trans h.2 hk, fun i g => Nat.le_trans (h.1 i g) hk⟩

set_option maxRecDepth 100000 in
set_option maxHeartbeats 8000000 in
theorem law_jdeterminant (p : Int) [hU : U p] (v : Value) (M : List (List Int)) (w : World) (hM : MatR w v M) (hn : M.length ≤ 9223372036854775807) (hr : ∀ i (h : i < M.length), M[i].length ≤ 9223372036854775807) :
    Calls Try.prog 7 #[.int .u64 p, v] w fun e w' => e = .returned (.bool true) ∧ Below w.heap.size w w' := by
  have HM := Lib.hid (And.intro hM hr)
  clear hM hr
  by_cases hs : Sml M 6
  · obtain ⟨b1, b2⟩ := hs.rows (m := 100) (by decide)
    obtain ⟨b3, b4⟩ := hs.rows (m := 100000) (by decide)
    have HS := Lib.hid (And.intro (decide_eq_true hs) (And.intro b2 b4))
    clear hs b2 b4
    go_enter Try.func7, Try.ntmps7
    go_upto_region 3 with (first
      | (go_at_call 16; refine (awake5_u _).mono ?_; rintro _ w1 ⟨rfl, hb1⟩)
      | (go_at_call 29; refine (kSmall_u v M 6 _ (HM.out.1.hold hb1) hn HM.out.2 (by decide)).mono ?_; rintro e w2 ⟨rfl, rfl⟩; rw [HS.out.1]))
    have HB := Lib.hid hb1
    clear hb1
    go_wp2_with (first
      | (go_at_call 19; refine (cp5_u v M _ (HM.out.1.hold HB.out) b3 HS.out.2.2).mono ?_; rintro _ w3 ⟨v3, rs, rfl, hown, hb3⟩)
      | (go_at_call 34; refine (mDeterminant_p p v3 M _ hown.matR b1 HS.out.2.1).mono ?_; rintro _ w4 ⟨rfl, hb4⟩)
      | (go_at_call 31; refine (kDet_u p M.length v M _ rfl ((HM.out.1.hold HB.out).hold (Below.next (Nat.le_refl _) hb3 hb4)) b3 HS.out.2.2).mono ?_; rintro _ w5 ⟨rfl, hb5⟩))
    go_ret
    exact ⟨by simp, Below.next (Nat.le_refl _) (Below.next (Nat.le_refl _) (Below.next (Nat.le_refl _) HB.out hb3) hb4) hb5⟩
  · have HS := Lib.hid (decide_eq_false hs)
    clear hs
    go_enter Try.func7, Try.ntmps7
    go_upto_region 2 with (first
      | (go_at_call 16; refine (awake5_u _).mono ?_; rintro _ w1 ⟨rfl, hb1⟩)
      | (go_at_call 29; refine (kSmall_u v M 6 _ (HM.out.1.hold hb1) hn HM.out.2 (by decide)).mono ?_; rintro e w2 ⟨rfl, rfl⟩; rw [HS.out]))
    have HB := Lib.hid hb1
    clear hb1
    go_wp2_with (go_at_call 16; refine (awake5_u _).mono ?_; rintro _ w3 ⟨rfl, hb3⟩)
    go_ret
    exact ⟨rfl, Below.next (Nat.le_refl _) HB.out hb3⟩
end Go.Proofs.Ytdcdaclkeocfpaa

namespace Go.Proofs.Ytdcdaclkeocfpaa
open Go.RowKit Go.BigFrame
open Classical

theorem mulM_dims (p : Int) (A B : List (List Int)) (ha : A.length ≤ 100) : (mulM p A B).length ≤ 100000 ∧ ∀ i (h : i < (mulM p A B).length), (mulM p A B)[i].length ≤ 100000 := by
  by_cases hb : OkM p A ∧ OkM p B ∧ B.length = cols A
  · have e := mulM_rows hb.1 hb.2.1 hb.2.2
    have hc := hb.2.1.2.cols
    refine ⟨by rw [e]; simp; omega, fun i h => ?_⟩
    simp only [e, List.getElem_map, mrow_len]; omega
  · have e : mulM p A B = [] := by unfold mulM; rw [if_neg hb]
    rw [e]; exact ⟨by simp, fun i h => by simp at h⟩
theorem apL_short (p : Int) (M : List (List Int)) (X : List Int) (h : M.length ≤ 100) : (apL p M X).length ≤ 100 := by
  unfold apL
  split
  · simp; omega
  · simp

theorem OwnM.keptE {w w' : World} {base E n c : Nat} {v : Value} {rs : Nat → Value} {M : List (List Int)} (h : OwnM w base v rs M) (k : w.grownBy w' (Value.slice (some ⟨E, 0, none⟩) n c).ownBlock) (hE : E < base ∨ w.heap.size ≤ E) : OwnM w' base v rs M :=
  h.kept k (fun g e e2 => by
    have h1 := h.outer.lt g e2
    have e3 : E = g := by simpa [Value.ownBlock] using e
    omega) fun i hi g e e2 => by
    have h1 := (h.row i hi).row.lt g e2
    have e3 : E = g := by simpa [Value.ownBlock] using e
    omega

set_option maxRecDepth 100000 in
set_option maxHeartbeats 16000000 in
theorem law_jmultiply (p : Int) [hU : U p] (va vb : Value) (A B : List (List Int)) (w : World) (hA : MatR w va A) (hB : MatR w vb B) (hn : A.length ≤ 9223372036854775807) (hr : ∀ i (h : i < A.length), A[i].length ≤ 9223372036854775807) (hm : B.length ≤ 9223372036854775807) (hs : ∀ i (h : i < B.length), B[i].length ≤ 9223372036854775807) :
    Calls Try.prog 9 #[.int .u64 p, va, vb] w fun e w' => e = .returned (.bool true) ∧ Below w.heap.size w w' := by
  obtain ⟨a0, c0, rfl⟩ := hA.shape
  obtain ⟨a1, c1, rfl⟩ := hB.shape
  have HM := Lib.hid (And.intro hA (And.intro hr (And.intro hB hs)))
  clear hA hr hB hs
  by_cases hsa : Sml A 12
  · by_cases hsb : Sml B 12
    · obtain ⟨b1, b2⟩ := hsa.rows (m := 100) (by decide)
      obtain ⟨b3, b4⟩ := hsa.rows (m := 100000) (by decide)
      obtain ⟨d1, d2⟩ := hsb.rows (m := 100) (by decide)
      obtain ⟨d3, d4⟩ := hsb.rows (m := 100000) (by decide)
      have HS := Lib.hid (And.intro (decide_eq_true hsa) (And.intro (decide_eq_true hsb) (And.intro b2 (And.intro b4 (And.intro d2 d4)))))
      clear hsa hsb b2 b4 d2 d4
      go_enter Try.func9, Try.ntmps9
      go_upto_region 3 with (first
        | (go_at_call 16; refine (awake5_u _).mono ?_; rintro _ w1 ⟨rfl, hb1⟩)
        | (go_at_call 17; (with_reducible show Calls _ _ #[.slice a0 _ _] _ _); refine (small5_u _ A _ (HM.out.1.hold hb1) hn HM.out.2.1).mono ?_; rintro e w2 ⟨rfl, hw2⟩; obtain rfl : w1 = w2 := hw2.symm; rw [HS.out.1])
        | (go_at_call 17; refine (small5_u _ B _ (HM.out.2.2.1.hold hb1) hm HM.out.2.2.2).mono ?_; rintro e w2 ⟨rfl, hw3⟩; obtain rfl : w1 = w2 := hw3.symm; rw [HS.out.2.1]))
      have HB := Lib.hid hb1
      clear hb1
      go_upto_region 4 with fail
      refine name_world ?_
      intro W hW
      have hf : W.cell? ⟨w1.heap.size, 0, none⟩ = some (.int .u64 p) := by rw [hW]; go_simp
      have hbW : Below w.heap.size w W := by rw [hW]; exact Below.made (Nat.le_refl _) HB.out _
      have HBW := Lib.hid hbW
      clear hW hbW HB
      have G0 := fun (w' : World) (h : Below W.heap.size W w') => Below.hold h hf
      have F := Below.refl W.heap.size W
      go_region_held3 (fun w' => Below W.heap.size W w')
        (repeat (first | assumption | refine Below.drew ?_ | refine Below.next (Nat.le_refl _) ?_ (by assumption)))
        (first
          | (go_at_call 19; (with_reducible show Calls _ _ #[.slice a0 _ _] _ _); refine (cp5_u _ A _ (HM.out.1.hold (Below.next (Nat.le_refl _) HBW.out (by assumption))) b3 HS.out.2.2.2.1).mono ?_; rintro _ w3 ⟨v3, rs3, rfl, hown3, hb3⟩; have hs3 : Below W.heap.size W w3 := Below.next (Nat.le_refl _) (by assumption) hb3)
          | (go_at_call 19; refine (cp5_u _ B _ (HM.out.2.2.1.hold (Below.next (Nat.le_refl _) HBW.out (by (repeat (first | assumption | refine Below.drew ?_ | refine Below.next (Nat.le_refl _) ?_ (by assumption)))))) d3 HS.out.2.2.2.2.2).mono ?_; rintro _ w4 ⟨v4, rs4, rfl, hown4, hb4⟩; have hs4 : Below W.heap.size W w4 := Below.next (Nat.le_refl _) (by (repeat (first | assumption | refine Below.drew ?_ | refine Below.next (Nat.le_refl _) ?_ (by assumption)))) hb4)
          | (go_at_call 37; refine (mMultiply_p p v3 v4 A B _ (hown3.matR.hold (by repeat (first | exact Below.refl _ _ | exact hb4 | refine Below.drew ?_ | refine Below.next (Nat.le_refl _) ?_ hb4))) (hown4.matR.hold (by repeat (first | exact Below.refl _ _ | refine Below.drew ?_))) b1 d1 HS.out.2.2.1 HS.out.2.2.2.2.1).mono ?_; rintro _ w5 ⟨v5, rfl, hX5, hb5⟩; have hs5 : Below W.heap.size W w5 := Below.next (Nat.le_refl _) (by (repeat (first | assumption | refine Below.drew ?_ | refine Below.next (Nat.le_refl _) ?_ (by assumption)))) hb5)
          | (go_at_call 33; refine (kMultiply_u p _ _ A B _ (HM.out.1.hold (Below.next (Nat.le_refl _) HBW.out (by (repeat (first | assumption | refine Below.drew ?_ | refine Below.next (Nat.le_refl _) ?_ (by assumption)))))) (HM.out.2.2.1.hold (Below.next (Nat.le_refl _) HBW.out (by (repeat (first | assumption | refine Below.drew ?_ | refine Below.next (Nat.le_refl _) ?_ (by assumption)))))) b3 d3 HS.out.2.2.2.1 HS.out.2.2.2.2.2).mono ?_; rintro _ w6 ⟨v6, rs6, rfl, hown6, hb6⟩; have hs6 : Below W.heap.size W w6 := Below.next (Nat.le_refl _) (by (repeat (first | assumption | refine Below.drew ?_ | refine Below.next (Nat.le_refl _) ?_ (by assumption)))) hb6)
          | (go_at_call 21; refine (kSame_b _ _ (mulM p A B) (mulM p A B) _ (hX5.hold (by repeat (first | exact Below.refl _ _ | exact hb6 | refine Below.drew ?_ | refine Below.next (Nat.le_refl _) ?_ hb6))) (hown6.matR.hold (by repeat (first | exact Below.refl _ _ | refine Below.drew ?_))) (mulM_dims p A B b1).1 (mulM_dims p A B b1).1 (mulM_dims p A B b1).2 (mulM_dims p A B b1).2).mono ?_; rintro _ w7 ⟨rfl, hb7⟩; rw [decide_eq_true (rfl : mulM p A B = mulM p A B)]; have hs7 : Below W.heap.size W w7 := Below.next (Nat.le_refl _) (by (repeat (first | assumption | refine Below.drew ?_ | refine Below.next (Nat.le_refl _) ?_ (by assumption)))) hb7)
          | fail)
      all_goals
        have HX := Lib.hid (Below.next (Nat.le_refl _) HBW.out hs7)
        have hf7 := G0 _ hs7
        clear hs3 hs4 hs5 hs6 hs7 hb3 hb4 hb5 hb6 hb7 hown3 hown4 hown6 hX5 F G0 hf
        go_wp2_with fail
        go_loopw [39] (fun iv wr => ∃ i : Nat, iv = .int .i64 i ∧ i ≤ B.length ∧ Below w7.heap.size w7 wr) (fun iv _ => B.length - (intOf iv).toNat)
        case atStart => exact ⟨0, rfl, Nat.zero_le _, Below.refl _ _⟩
        case round =>
          obtain ⟨i, rfl, hi, hb⟩ := hrel
          have i0 : (0 : Int) ≤ (i : Int) := by omega
          have hbB := Below.next (Nat.le_refl _) HX.out hb
          by_cases hlt : i < B.length
          · obtain ⟨b, o, cx, rv, e, hcr, hlr⟩ := (HM.out.2.2.1.hold hbB).rows i hlt
            obtain ⟨rfl, rfl⟩ : a1 = some ⟨b, o, none⟩ ∧ c1 = cx := by simp at e; exact e
            have hrl := HS.out.2.2.2.2.1 i hlt
            obtain ⟨X, hX⟩ : ∃ X, X = B[i] := ⟨_, rfl⟩
            rw [← hX] at hlr hrl
            obtain ⟨ar, nr, rfl⟩ := hlr.shape
            have i2 : (i : Int) < (B.length : Int) := by omega
            have hf := Below.hold hb hf7
            have HV := Lib.hid (And.intro hlr (And.intro hb hbB))
            clear hlr hb hbB hX e
            go_upto_region 9 with fail
            refine name_world ?_
            intro W2 hW2
            rw [← hW2] at hf HV
            clear hW2
            obtain ⟨Y, hY⟩ : ∃ Y, Y = apL p A X := ⟨_, rfl⟩
            have hYl : Y.length ≤ 100000 := by rw [hY]; exact Nat.le_trans (apL_short p A X b1) (by decide)
            have HY := Lib.hid hY
            clear hY
            have G0 := fun (w' : World) (h : Below W2.heap.size W2 w') => Below.hold h hf
            have F := Below.refl W2.heap.size W2
            go_region_held3 (fun w' => Below W2.heap.size W2 w')
              (first | assumption | exact Below.drew (by assumption) | exact Below.made (Nat.le_refl _) (by assumption) _)
              (first
                | (go_at_call 19; refine (cp5_u _ A _ (HM.out.1.hold (Below.next (Nat.le_refl _) HV.out.2.2 (by repeat (first | assumption | refine Below.drew ?_ | refine Below.made (Nat.le_refl _) ?_ _)))) b3 HS.out.2.2.2.1).mono ?_; rintro _ w8 ⟨v8, rs8, rfl, hown8, hb8⟩; have hs8 : Below W2.heap.size W2 w8 := Below.next (Nat.le_refl _) (by repeat (first | assumption | refine Below.drew ?_ | refine Below.made (Nat.le_refl _) ?_ _)) hb8)
                | (refine append_all_step (by rfl) (.tmp 46) (.tmp 47) (by rfl) W2.heap.size _ [] (by rfl) (by first | exact empty_at (by first | exact hs8.size | exact Nat.le_refl _) (at_new' (by simp; done)) | exact empty_at (by first | exact hs8.size | exact Nat.le_refl _) (at_drew (at_new' (by simp; done))) | exact Own.hold (empty_at (by first | exact Nat.le_refl _ | exact Below.size (by assumption)) (at_new' (by simp; done))) hb8 | exact Own.hold (empty_at (by first | exact Nat.le_refl _ | exact Below.size (by assumption)) (at_drew (at_new' (by simp; done)))) hb8) _ X (by rfl) (HV.out.1.hold (by repeat (first | exact hs8 | refine Below.drew ?_ | refine Below.made (Nat.le_refl _) ?_ _))) (by simp) (by omega) (by first | exact hs8.size | exact Nat.le_succ_of_le hs8.size | (have h := hs8.size; simp; omega)) ?_; intro v9 w9 hown9 hb9 hg9; have hs9 : Below W2.heap.size W2 w9 := Below.trans (by repeat (first | exact hs8 | refine Below.drew ?_ | refine Below.made (Nat.le_refl _) ?_ _)) hb9; have hmA := OwnM.keptE hown8 (grown_then (by repeat (first | exact Below.refl _ _ | refine Below.drew ?_ | refine Below.made (Nat.le_refl _) ?_ _)) hg9) (by first | (left; simp; done) | (right; simp; done) | (left; simp; omega) | (right; simp; omega)); rw [List.nil_append] at hown9)
                | (go_at_call 39; refine (mApply_p p v8 v9 A X _ (hmA.matR.hold (by repeat (first | exact Below.refl _ _ | refine Below.drew ?_))) (hown9.lst.hold (by repeat (first | exact Below.refl _ _ | refine Below.drew ?_))) b1 HS.out.2.2.1 (by omega)).mono ?_; rintro _ w10 ⟨v10, rfl, hl10, hb10⟩; rw [← HY.out] at hl10; have hs10 : Below W2.heap.size W2 w10 := Below.next (Nat.le_refl _) (by repeat (first | exact hs9 | refine Below.drew ?_)) hb10)
                | (go_at_call 28; refine (kApply_u p _ _ A X _ (HM.out.1.hold (Below.next (Nat.le_refl _) HV.out.2.2 (by repeat (first | exact hs10 | refine Below.drew ?_)))) (HV.out.1.hold (by repeat (first | exact hs10 | refine Below.drew ?_))) b3 HS.out.2.2.2.1 (by omega)).mono ?_; rintro _ w11 ⟨v11, rfl, hown11, hb11⟩; rw [← HY.out] at hown11; have hs11 : Below W2.heap.size W2 w11 := Below.next (Nat.le_refl _) (by repeat (first | exact hs10 | refine Below.drew ?_)) hb11)
                | (go_at_call 25; refine (rSame_b _ _ Y Y _ (hl10.hold hb11) hown11.lst hYl hYl).mono ?_; rintro _ w12 ⟨rfl, hb12⟩; rw [decide_eq_true (rfl : Y = Y)]; have hs12 : Below W2.heap.size W2 w12 := Below.next (Nat.le_refl _) (by repeat (first | exact hs11 | refine Below.drew ?_)) hb12)
                | fail)
            all_goals
              have HU := Lib.hid (Below.next (Nat.le_refl _) HV.out.2.1 hs12)
              clear hs8 hs9 hs10 hs11 hs12 hb8 hb9 hb10 hb11 hb12 hg9 hown8 hown9 hown11 hl10 hmA F G0 hf
              go_wp2
              exact ⟨⟨i + 1, by go_num, by omega, HU.out⟩, by simp [intOf]; omega⟩
          · obtain rfl : i = B.length := by omega
            have HV := Lib.hid hbB
            clear hb hbB
            go_wp2
            go_ret
            exact ⟨rfl, HV.out⟩
    · have HS := Lib.hid (And.intro (decide_eq_true hsa) (decide_eq_false hsb))
      clear hsa hsb
      go_enter Try.func9, Try.ntmps9
      go_upto_region 2 with (first
        | (go_at_call 16; refine (awake5_u _).mono ?_; rintro _ w1 ⟨rfl, hb1⟩)
        | (go_at_call 17; (with_reducible show Calls _ _ #[.slice a0 _ _] _ _); refine (small5_u _ A _ (HM.out.1.hold hb1) hn HM.out.2.1).mono ?_; rintro e w2 ⟨rfl, hw2⟩; obtain rfl : w1 = w2 := hw2.symm; rw [HS.out.1])
        | (go_at_call 17; refine (small5_u _ B _ (HM.out.2.2.1.hold hb1) hm HM.out.2.2.2).mono ?_; rintro e w2 ⟨rfl, hw3⟩; obtain rfl : w1 = w2 := hw3.symm; rw [HS.out.2]))
      have HB := Lib.hid hb1
      clear hb1
      go_wp2_with (go_at_call 16; refine (awake5_u _).mono ?_; rintro _ w3 ⟨rfl, hb3⟩)
      go_ret
      exact ⟨rfl, Below.next (Nat.le_refl _) HB.out hb3⟩
  · have HS := Lib.hid (decide_eq_false hsa)
    clear hsa
    go_enter Try.func9, Try.ntmps9
    go_upto_region 2 with (first
      | (go_at_call 16; refine (awake5_u _).mono ?_; rintro _ w1 ⟨rfl, hb1⟩)
      | (go_at_call 17; refine (small5_u _ A _ (HM.out.1.hold hb1) hn HM.out.2.1).mono ?_; rintro e w2 ⟨rfl, hw2⟩; obtain rfl : w1 = w2 := hw2.symm; rw [HS.out]))
    have HB := Lib.hid hb1
    clear hb1
    go_wp2_with (go_at_call 16; refine (awake5_u _).mono ?_; rintro _ w3 ⟨rfl, hb3⟩)
    go_ret
    exact ⟨rfl, Below.next (Nat.le_refl _) HB.out hb3⟩
end Go.Proofs.Ytdcdaclkeocfpaa
