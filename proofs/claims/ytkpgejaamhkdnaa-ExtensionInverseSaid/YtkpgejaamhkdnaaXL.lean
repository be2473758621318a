/- The walks of the examples, and of the choice of the prime. -/
import Derived.Test.YtkpgejaamhkdnaaXQ
import Derived.Test.YtkpgejaamhkdnaaEqA
namespace Go.Proofs.Ytkpgejaamhkdnaa
open Go.RowKit Go.BigFrame Ext

instance : U 10 := ⟨by decide, by decide⟩
set_option maxHeartbeats 4000000 in
theorem awake2_u (w : World) : Calls Try.prog 11 #[] w fun e w' => e = .returned (.bool true) ∧ Nw w.heap.size w w' := by
  have heq := eq_pair
  have e1 : (m0 17 1 2 3 4 == 10) = true := by decide
  have e2 : (m1 17 1 2 3 4 == 10) = true := by decide
  have e3 : (nm 17 1 2 == 6) = true := by decide
  have e4 : (i0 17 1 2 == 3) = true := by decide
  have e5 : (i1 17 1 2 == 11) = true := by decide
  have e6 : (m0 17 0 1 0 1 == 3) = true := by decide
  have e7 : (m1 17 0 1 0 1 == 0) = true := by decide
  go_enter Try.func11, Try.ntmps11
  go_upto_region 3 with fail
  refine name_world ?_
  intro W hW
  have hnw : Nw w.heap.size w W := by rw [hW]; (repeat (first | exact Nw.refl _ _ | refine Nw.drew ?_ | refine Nw.drewN ?_ _ | refine Nw.made (Nat.le_refl _) ?_ _ _))
  have s0 : W.cell? ⟨w.heap.size, 0, none⟩ = some (.int .u64 17) := by rw [hW]; go_simp
  have c0 := fun q : NwAt W => q.nw.hold s0
  have s1 : W.cell? ⟨w.heap.size + 1, 0, none⟩ = some (.int .u64 1) := by rw [hW]; go_simp
  have c1 := fun q : NwAt W => q.nw.hold s1
  have s2 : W.cell? ⟨w.heap.size + 1, 1, none⟩ = some (.int .u64 2) := by rw [hW]; go_simp
  have c2 := fun q : NwAt W => q.nw.hold s2
  have s3 : W.cell? ⟨w.heap.size + 1 + 1, 0, none⟩ = some (.int .u64 0) := by rw [hW]; go_simp
  have c3 := fun q : NwAt W => q.nw.hold s3
  have s4 : W.cell? ⟨w.heap.size + 1 + 1, 1, none⟩ = some (.int .u64 1) := by rw [hW]; go_simp
  have c4 := fun q : NwAt W => q.nw.hold s4
  clear hW
  refine from_here ?_
  intro q
  go_wp2_with (first | (go_at_call 17; refine (nwAt_of (xMul_u _ _ _ _ _ _)).mono ?_; clear q; rintro _ _ ⟨rfl, q, rfl⟩) | (go_at_call 21; refine (nwAt_of (xNorm_u _ _ _ _)).mono ?_; clear q; rintro _ _ ⟨rfl, q, rfl⟩) | (go_at_call 23; refine (nwAt_of (xInv_u _ _ _ _)).mono ?_; clear q; rintro _ _ ⟨rfl, q, rfl⟩))
  go_ret
  exact ⟨rfl, by have hqn := q.nw; exact by (repeat (first | exact Nw.refl _ _ | assumption | refine Nw.drew ?_ | refine Nw.drewN ?_ _ | refine Nw.set ?_ (by first | omega | (simp; done) | (simp; omega)) _ | refine Nw.made (Nat.le_refl _) ?_ _ _ | refine Nw.next (Nat.le_refl _) ?_ (by assumption)))⟩

/-- The prime that a number selects: the one given, or a known one. -/
def pr2 (P K : Int) : Int := if K % 8 == 0 then P else prime (K % 8)
set_option maxHeartbeats 4000000 in
theorem prime2_u (P K a0 a1 b0 b1 : Int) (hK : 0 ≤ K) (hK' : K ≤ 255) (w : World) : Calls Try.prog 12 #[.agg #[.int .u64 P, .int .u8 K, .int .u64 a0, .int .u64 a1, .int .u64 b0, .int .u64 b1]] w fun e w' => e = .returned (.int .u64 (pr2 P K)) ∧ Nw w.heap.size w w' := by
  by_cases h : K % 8 = 0
  · have e : pr2 P K = P := by rw [pr2, h]; rfl
    rw [e]
    go_enter Try.func12, Try.ntmps12
    go_wp2
    go_ret
    exact ⟨rfl, by (repeat (first | exact Nw.refl _ _ | assumption | refine Nw.drew ?_ | refine Nw.drewN ?_ _ | refine Nw.set ?_ (by first | omega | (simp; done) | (simp; omega)) _ | refine Nw.made (Nat.le_refl _) ?_ _ _ | refine Nw.next (Nat.le_refl _) ?_ (by assumption)))⟩
  · have e : pr2 P K = prime (K % 8) := by rw [pr2, if_neg (by simpa using h)]
    rw [e]
    go_enter Try.func12, Try.ntmps12
    go_wp2_with (go_at_call 29; refine (rPrime_any _ (by omega) (by omega) _).mono ?_; rintro _ w1 ⟨rfl, hb1⟩)
    go_ret
    exact ⟨rfl, by (repeat (first | exact Nw.refl _ _ | assumption | refine Nw.drew ?_ | refine Nw.drewN ?_ _ | refine Nw.set ?_ (by first | omega | (simp; done) | (simp; omega)) _ | refine Nw.made (Nat.le_refl _) ?_ _ _ | refine Nw.next (Nat.le_refl _) ?_ (by assumption)))⟩
end Go.Proofs.Ytkpgejaamhkdnaa
