/- The walk of the statement on the extension's matrices. -/
import Derived.Test.YtdcdaclkeocfpaaEW
namespace Go.Proofs.Ytdcdaclkeocfpaa
open Go.RowKit Go.BigFrame
open Classical

theorem A2_dims {p : Int} (x : Int × Int) (m : Nat) (hm : 2 ≤ m) : (A2 p x).length ≤ m ∧ ∀ i (h : i < (A2 p x).length), (A2 p x)[i].length ≤ m :=
  ⟨hm, fun i h => by
    match i, h with
    | 0, _ => exact hm
    | 1, _ => exact hm⟩

set_option maxRecDepth 100000 in
set_option maxHeartbeats 16000000 in
theorem law_jextmatrix (n0 : Int) (hn0 : 0 ≤ n0 ∧ n0 ≤ 255) (a0 a1 b0 b1 : Int) [ua0 : U a0] [ua1 : U a1] [ub0 : U b0] [ub1 : U b1] (w : World) :
    Calls Try.prog 15 #[.int .u8 n0, .agg #[.int .u64 a0, .int .u64 a1], .agg #[.int .u64 b0, .int .u64 b1]] w fun e w' => e = .returned (.bool true) ∧ Below w.heap.size w w' := by
  have hk := prime_known n0
  obtain ⟨p, hp⟩ : ∃ p, p = prime n0 := ⟨_, rfl⟩
  rw [← hp] at hk
  have HP := Lib.hid hp
  have HKn := Lib.hid hk
  have hU : U p := known_u hk
  clear hp hk
  go_enter Try.func15, Try.ntmps15
  go_upto_region 1 with fail
  refine name_world ?_
  intro W0 hW
  have hbW : Below w.heap.size w W0 := by rw [hW]; exact Below.made (Nat.le_refl _) (Below.made (Nat.le_refl _) (Below.refl _ _) _) _
  have x0 : W0.cell? ⟨w.heap.size, 0, none⟩ = some (.int .u64 a0) := by rw [hW]; go_simp
  have x1 : W0.cell? ⟨w.heap.size, 1, none⟩ = some (.int .u64 a1) := by rw [hW]; go_simp
  have y0 : W0.cell? ⟨w.heap.size + 1, 0, none⟩ = some (.int .u64 b0) := by rw [hW]; go_simp
  have y1 : W0.cell? ⟨w.heap.size + 1, 1, none⟩ = some (.int .u64 b1) := by rw [hW]; go_simp
  have HBW := Lib.hid hbW
  clear hW hbW
  go_upto_region 4 with (first
    | (go_at_call 45; refine (awake05_u _).mono ?_; rintro _ w1 ⟨rfl, hb1⟩)
    | (go_at_call 35; refine (rPrime_any n0 hn0.1 hn0.2 _).mono ?_; rintro _ w2 ⟨rfl, hb2⟩; rw [← HP.out]))
  refine name_world ?_
  intro W hW
  have hbb : Below W0.heap.size W0 W := by rw [hW]; exact Below.made (Nat.le_refl _) (Below.next (Nat.le_refl _) hb1 hb2.b) _
  have hf : W.cell? ⟨w2.heap.size, 0, none⟩ = some (.int .u64 p) := by rw [hW]; go_simp
  replace x0 := Below.hold hbb x0
  replace x1 := Below.hold hbb x1
  replace y0 := Below.hold hbb y0
  replace y1 := Below.hold hbb y1
  have HB := Lib.hid (Below.next (Nat.le_refl _) HBW.out hbb)
  clear hW hbb hb1 hb2 HBW
  obtain ⟨gf, hgf⟩ : ∃ g, g = w2.heap.size := ⟨_, rfl⟩
  rw [← hgf] at hf ⊢
  clear hgf
  go_upto_region 5 with fail
  have G0 := fun (w' : World) (h : Below W.heap.size W w') => Below.hold h x0
  have G1 := fun (w' : World) (h : Below W.heap.size W w') => Below.hold h x1
  have G2 := fun (w' : World) (h : Below W.heap.size W w') => Below.hold h y0
  have G3 := fun (w' : World) (h : Below W.heap.size W w') => Below.hold h y1
  have G4 := fun (w' : World) (h : Below W.heap.size W w') => Below.hold h hf
  have F := Below.refl W.heap.size W
  go_region_held3 (fun w' => Below W.heap.size W w')
    (first | assumption | exact Below.drew (by assumption))
    (first
      | (go_at_call 55; (with_reducible show Calls _ _ #[.agg #[.int .u64 a0, .int .u64 a1], _] _ _); refine (mat05_u p a0 a1 gf _ (G4 _ (by (repeat (first | assumption | refine Below.drew ?_ | refine Below.next (Nat.le_refl _) ?_ (by assumption)))))).mono ?_; rintro _ wA ⟨vA, rfl, hA, hbA⟩; have hsA : Below W.heap.size W wA := Below.next (Nat.le_refl _) (by (repeat (first | assumption | refine Below.drew ?_ | refine Below.next (Nat.le_refl _) ?_ (by assumption)))) hbA)
      | (go_at_call 55; (with_reducible show Calls _ _ #[.agg #[.int .u64 b0, .int .u64 b1], _] _ _); refine (mat05_u p b0 b1 gf _ (G4 _ (by (repeat (first | assumption | refine Below.drew ?_ | refine Below.next (Nat.le_refl _) ?_ (by assumption)))))).mono ?_; rintro _ wB ⟨vB, rfl, hB, hbB⟩; have hsB : Below W.heap.size W wB := Below.next (Nat.le_refl _) (by (repeat (first | assumption | refine Below.drew ?_ | refine Below.next (Nat.le_refl _) ?_ (by assumption)))) hbB)
      | (go_at_call 55; refine (mat05_u p (m0 p a0 a1 b0 b1) (m1 p a0 a1 b0 b1) gf _ (G4 _ (by (repeat (first | assumption | refine Below.drew ?_ | refine Below.next (Nat.le_refl _) ?_ (by assumption)))))).mono ?_; rintro _ wC ⟨vC, rfl, hC, hbC⟩; have hsC : Below W.heap.size W wC := Below.next (Nat.le_refl _) (by (repeat (first | assumption | refine Below.drew ?_ | refine Below.next (Nat.le_refl _) ?_ (by assumption)))) hbC)
      | (go_at_call 37; refine (mMultiply_p p vA vB (A2 p (a0, a1)) (A2 p (b0, b1)) _ (hA.hold hbB) hB (A2_dims _ _ (by decide)).1 (A2_dims _ _ (by decide)).1 (A2_dims _ _ (by decide)).2 (A2_dims _ _ (by decide)).2).mono ?_; rintro _ w5 ⟨v5, rfl, hX5, hb5⟩; rw [A2_mulM HKn.out] at hX5; have hs5 : Below W.heap.size W w5 := Below.next (Nat.le_refl _) (by (repeat (first | assumption | refine Below.drew ?_ | refine Below.next (Nat.le_refl _) ?_ (by assumption)))) hb5)
      | (go_at_call 58; refine (xMul_u p a0 a1 b0 b1 _).mono ?_; rintro _ w6 ⟨rfl, hb6⟩; have hb6' := hb6.b; have hs6 : Below W.heap.size W w6 := Below.next (Nat.le_refl _) (by (repeat (first | assumption | refine Below.drew ?_ | refine Below.next (Nat.le_refl _) ?_ (by assumption)))) hb6')
      | (go_at_call 21; refine (kSame_b v5 vC _ (A2 p (m0 p a0 a1 b0 b1, m1 p a0 a1 b0 b1)) _ (hX5.hold (Below.next (Nat.le_refl _) hb6' hbC)) hC (A2_dims _ _ (by decide)).1 (A2_dims _ _ (by decide)).1 (A2_dims _ _ (by decide)).2 (A2_dims _ _ (by decide)).2).mono ?_; rintro _ w7 ⟨rfl, hb7⟩; rw [decide_eq_true (show A2 p (Ext.emul p (a0, a1) (b0, b1)) = A2 p (m0 p a0 a1 b0 b1, m1 p a0 a1 b0 b1) from rfl)]; have hs7 : Below W.heap.size W w7 := Below.next (Nat.le_refl _) (by (repeat (first | assumption | refine Below.drew ?_ | refine Below.next (Nat.le_refl _) ?_ (by assumption)))) hb7)
      | (go_at_call 34; refine (mDeterminant_p p vA (A2 p (a0, a1)) _ hA (A2_dims _ _ (by decide)).1 (A2_dims _ _ (by decide)).2).mono ?_; rintro _ w8 ⟨rfl, hb8⟩; rw [A2_det HKn.out]; have hs8 : Below W.heap.size W w8 := Below.next (Nat.le_refl _) (by (repeat (first | assumption | refine Below.drew ?_ | refine Below.next (Nat.le_refl _) ?_ (by assumption)))) hb8)
      | (go_at_call 59; refine (xNorm_u p a0 a1 _).mono ?_; rintro _ w9 ⟨rfl, hb9⟩; have hb9' := hb9.b; have hs9 : Below W.heap.size W w9 := Below.next (Nat.le_refl _) (by (repeat (first | assumption | refine Below.drew ?_ | refine Below.next (Nat.le_refl _) ?_ (by assumption)))) hb9')
      | fail)
  all_goals
    have z0 := G0 _ hs9
    have z1 := G1 _ hs9
    have zf := G4 _ hs9
    have HB9 := Lib.hid (Below.next (Nat.le_refl _) HB.out hs9)
    clear G0 G1 G2 G3 G4 F hA hB hX5 hC
    go_upto_region 7 with fail
    have G0 := fun (w' : World) (h : Below w9.heap.size w9 w') => Below.hold h z0
    have G1 := fun (w' : World) (h : Below w9.heap.size w9 w') => Below.hold h z1
    have G4 := fun (w' : World) (h : Below w9.heap.size w9 w') => Below.hold h zf
    have F := Below.refl w9.heap.size w9
    go_region_held3 (fun w' => Below w9.heap.size w9 w')
      (first | assumption | exact Below.drew (by assumption))
      (first
        | (go_at_call 55; refine (mat05_u p a0 a1 gf _ (G4 _ (by first | assumption | exact Below.drew (by assumption)))).mono ?_; rintro _ wD ⟨vD, rfl, hD, hbD⟩; have hsD : Below w9.heap.size w9 wD := Below.next (Nat.le_refl _) (by first | assumption | exact Below.drew (by assumption)) hbD)
        | (go_at_call 30; refine (mInverse_p p vD (A2 p (a0, a1)) _ hD (A2_dims _ _ (by decide)).1 (A2_dims _ _ (by decide)).2).mono ?_; rintro _ w10 ⟨v10, fb, X, rfl, hX, hinv, hb10⟩; have hs10 : Below w9.heap.size w9 w10 := Below.next (Nat.le_refl _) (by first | assumption | exact Below.drew (by assumption)) hb10)
        | fail)
    all_goals
      have t0 := G0 _ hs10
      have t1 := G1 _ hs10
      have tf := G4 _ hs10
      have HB10 := Lib.hid (Below.next (Nat.le_refl _) HB9.out hs10)
      clear G0 G1 G4 F hD
      rcases A2_inv HKn.out hinv with ⟨rfl, e1, e2⟩ | ⟨rfl, e1, rfl⟩
      · have HE := Lib.hid (And.intro e1 e2)
        clear e1 e2 hinv
        go_wp2_with (first
          | (go_at_call 56; (with_reducible show Calls _ _ #[_, .int .u64 a0] _ _); refine (fReduce_u p a0 _).mono ?_; rintro _ w11 ⟨rfl, hb11⟩; rw [HE.out.1]; have p0 := Below.hold hb11.b t0; have p1 := Below.hold hb11.b t1; have pf0 := Below.hold hb11.b tf)
          | (go_at_call 56; refine (fReduce_u p a1 _).mono ?_; rintro _ w12 ⟨rfl, hb12⟩; rw [HE.out.2]; have q0 := Below.hold hb12.b p0; have q1 := Below.hold hb12.b p1; have qf := Below.hold hb12.b pf0)
          | fail)
        go_ret
        exact ⟨rfl, Below.next (Nat.le_refl _) HB10.out (Below.next (Nat.le_refl _) hb11.b hb12.b)⟩
      · clear hinv
        by_cases e0 : rd p a0 = 0
        · have hz1 : (rd p a1 == 0) = false := beq_eq_false_iff_ne.2 fun e2 => e1 ⟨e0, e2⟩
          have HE := Lib.hid e0
          clear e0 e1
          go_wp2_with (first
            | (go_at_call 56; (with_reducible show Calls _ _ #[_, .int .u64 a0] _ _); refine (fReduce_u p a0 _).mono ?_; rintro _ w11 ⟨rfl, hb11⟩; rw [HE.out]; have p0 := Below.hold hb11.b t0; have p1 := Below.hold hb11.b t1; have pf0 := Below.hold hb11.b tf)
            | (go_at_call 56; refine (fReduce_u p a1 _).mono ?_; rintro _ w12 ⟨rfl, hb12⟩;  have q0 := Below.hold hb12.b p0; have q1 := Below.hold hb12.b p1; have qf := Below.hold hb12.b pf0)
              | (go_at_call 60; refine (xInv_u p a0 a1 _).mono ?_; rintro _ w13 ⟨rfl, hb13⟩; have rf := Below.hold hb13.b qf)
              | (go_at_call 55; refine (mat05_u p (i0 p a0 a1) (i1 p a0 a1) gf _ rf).mono ?_; rintro _ w14 ⟨v14, rfl, hE, hb14⟩)
              | (go_at_call 21; refine (kSame_b v10 v14 (A2 p (i0 p a0 a1, i1 p a0 a1)) (A2 p (i0 p a0 a1, i1 p a0 a1)) _ (hX.hold (Below.next (Nat.le_refl _) (Below.next (Nat.le_refl _) (Below.next (Nat.le_refl _) hb11.b hb12.b) hb13.b) hb14)) hE (A2_dims _ _ (by decide)).1 (A2_dims _ _ (by decide)).1 (A2_dims _ _ (by decide)).2 (A2_dims _ _ (by decide)).2).mono ?_; rintro _ w15 ⟨rfl, hb15⟩; rw [decide_eq_true rfl])
              | fail)
          go_ret
          exact ⟨rfl, Below.next (Nat.le_refl _) HB10.out (Below.next (Nat.le_refl _) (Below.next (Nat.le_refl _) (Below.next (Nat.le_refl _) (Below.next (Nat.le_refl _) hb11.b hb12.b) hb13.b) hb14) hb15)⟩
        · have hz1 : (rd p a0 == 0) = false := beq_eq_false_iff_ne.2 e0
          clear e0 e1
          go_wp2_with (first
            | (go_at_call 56; (with_reducible show Calls _ _ #[_, .int .u64 a0] _ _); refine (fReduce_u p a0 _).mono ?_; rintro _ w11 ⟨rfl, hb11⟩;  have p0 := Below.hold hb11.b t0; have p1 := Below.hold hb11.b t1; have pf0 := Below.hold hb11.b tf)
            | (go_at_call 60; refine (xInv_u p a0 a1 _).mono ?_; rintro _ w13 ⟨rfl, hb13⟩; have rf := Below.hold hb13.b pf0)
            | (go_at_call 55; refine (mat05_u p (i0 p a0 a1) (i1 p a0 a1) gf _ rf).mono ?_; rintro _ w14 ⟨v14, rfl, hE, hb14⟩)
            | (go_at_call 21; refine (kSame_b v10 v14 (A2 p (i0 p a0 a1, i1 p a0 a1)) (A2 p (i0 p a0 a1, i1 p a0 a1)) _ (hX.hold (Below.next (Nat.le_refl _) (Below.next (Nat.le_refl _) hb11.b hb13.b) hb14)) hE (A2_dims _ _ (by decide)).1 (A2_dims _ _ (by decide)).1 (A2_dims _ _ (by decide)).2 (A2_dims _ _ (by decide)).2).mono ?_; rintro _ w15 ⟨rfl, hb15⟩; rw [decide_eq_true rfl])
            | fail)
          go_ret
          exact ⟨rfl, Below.next (Nat.le_refl _) HB10.out (Below.next (Nat.le_refl _) (Below.next (Nat.le_refl _) (Below.next (Nat.le_refl _) hb11.b hb13.b) hb14) hb15)⟩
end Go.Proofs.Ytdcdaclkeocfpaa
