/- The walks of package extension and of its reference: what each returns; the world has at most new blocks. -/
import Derived.Test.YtkpgejaamhkdnaaExtL
import Derived.Test.YtkpgejaamhkdnaaU64
import Derived.Deep.Cut
namespace Go.Proofs.Ytkpgejaamhkdnaa
open Go.RowKit Go.BigFrame Ext

def m0 (p a0 a1 b0 b1 : Int) : Int := ad p (ml p a0 b0) (ml p (gen p) (ml p a1 b1))
def m1 (p a0 a1 b0 b1 : Int) : Int := ad p (ml p a0 b1) (ml p a1 b0)
def nm (p a0 a1 : Int) : Int := enm p (a0, a1)
def i0 (p a0 a1 : Int) : Int := ml p (rd p a0) (iv p (nm p a0 a1))
def i1 (p a0 a1 : Int) : Int := ml p (sb p 0 a1) (iv p (nm p a0 a1))
instance {p a0 a1 b0 b1 : Int} : U (m0 p a0 a1 b0 b1) := by unfold m0; infer_instance
instance {p a0 a1 b0 b1 : Int} : U (m1 p a0 a1 b0 b1) := by unfold m1; infer_instance
instance {p a0 a1 : Int} : U (nm p a0 a1) := by unfold nm enm emul; infer_instance
instance {p a0 a1 : Int} : U (i0 p a0 a1) := by unfold i0; infer_instance
instance {p a0 a1 : Int} : U (i1 p a0 a1) := by unfold i1; infer_instance
theorem emul_eq (p a0 a1 b0 b1 : Int) : emul p (a0, a1) (b0, b1) = (m0 p a0 a1 b0 b1, m1 p a0 a1 b0 b1) := rfl
theorem einv_eq (p a0 a1 : Int) : einv p (a0, a1) = (i0 p a0 a1, i1 p a0 a1) := rfl
theorem nm_eq (p a0 a1 : Int) : m0 p a0 a1 (rd p a0) (sb p 0 a1) = nm p a0 a1 := rfl
/-- The norm as the program writes it. -/
theorem nm_sub (p a0 a1 : Int) : sb p (ml p a0 a0) (ml p (gen p) (ml p a1 a1)) = nm p a0 a1 := by
  by_cases hk : known p = true
  · have h1 : Al p (sb p (ml p a0 a0) (ml p (gen p) (ml p a1 a1))) (nE (gen p) (a0, a1)) := by
      refine (sb_al hk _ _).trans ?_
      exact (ml_al hk _ _).sub ((ml_al hk _ _).trans ((Al.refl _ _).mul (ml_al hk _ _)))
    have h2 := (h1.trans (enm_al hk (a0, a1)).symm).emod
    have h3 := (emul_rd hk (a0, a1) (ecj p (a0, a1))).1
    have h4 : 0 ≤ sb p (ml p a0 a0) (ml p (gen p) (ml p a1 a1)) ∧ sb p (ml p a0 a0) (ml p (gen p) (ml p a1 a1)) < p := by
      rw [sb, if_pos hk]; exact red_bd hk _
    rw [Int.emod_eq_of_lt h4.1 h4.2] at h2
    rw [h2]
    exact Int.emod_eq_of_lt h3.1 h3.2
  · have hk : known p = false := by simpa using hk
    have := (unknown_all hk (a0, a1) (a0, a1) 0 0).2.2.2.2.1
    rw [nm, this, sb, hk]
    rfl

set_option maxHeartbeats 2000000 in
theorem xAdd_u (p a0 a1 b0 b1 : Int) [ha : U a0] [hc : U a1] [hb : U b0] [hd : U b1] (w : World) :
    Calls Try.prog 13 #[.agg #[.int .u64 p], .agg #[.int .u64 a0, .int .u64 a1], .agg #[.int .u64 b0, .int .u64 b1]] w fun e w' => e = .returned (.agg #[.int .u64 (ad p a0 b0), .int .u64 (ad p a1 b1)]) ∧ Nw w.heap.size w w' := by
  go_enter Try.func13, Try.ntmps13
  go_wp2
  refine name_world ?_
  intro W hW
  have hnw : Nw w.heap.size w W := by rw [hW]; (repeat (first | exact Nw.refl _ _ | refine Nw.drew ?_ | refine Nw.drewN ?_ _ | refine Nw.made (Nat.le_refl _) ?_ _ _))
  have s0 : W.cell? ⟨w.heap.size, 0, none⟩ = some (.int .u64 p) := by rw [hW]; go_simp
  have c0 := fun q : NwAt W => q.nw.hold s0
  have s1 : W.cell? ⟨w.heap.size + 1, 0, none⟩ = some (.int .u64 a0) := by rw [hW]; go_simp
  have c1 := fun q : NwAt W => q.nw.hold s1
  have s2 : W.cell? ⟨w.heap.size + 1, 1, none⟩ = some (.int .u64 a1) := by rw [hW]; go_simp
  have c2 := fun q : NwAt W => q.nw.hold s2
  have s3 : W.cell? ⟨w.heap.size + 1 + 1, 0, none⟩ = some (.int .u64 b0) := by rw [hW]; go_simp
  have c3 := fun q : NwAt W => q.nw.hold s3
  have s4 : W.cell? ⟨w.heap.size + 1 + 1, 1, none⟩ = some (.int .u64 b1) := by rw [hW]; go_simp
  have c4 := fun q : NwAt W => q.nw.hold s4
  have r0 : W.cell? ⟨w.heap.size + 1 + 1 + 1, 0, none⟩ = some (.int .u64 0) := by rw [hW]; go_simp
  have r1 : W.cell? ⟨w.heap.size + 1 + 1 + 1, 1, none⟩ = some (.int .u64 0) := by rw [hW]; go_simp
  have z0 : W.frozen? ⟨w.heap.size + 1 + 1 + 1, 0, none⟩ = false := by rw [hW]; go_simp
  have z1 : W.frozen? ⟨w.heap.size + 1 + 1 + 1, 1, none⟩ = false := by rw [hW]; go_simp
  have k0 := fun q : NwAt W => q.nw.hold r0
  have k1 := fun q : NwAt W => q.nw.hold r1
  have l0 := fun q : NwAt W => q.nw.holdf z0
  have l1 := fun q : NwAt W => q.nw.holdf z1
  clear hW
  refine from_here ?_
  intro q
  refine wp_region_nwt 13 (by kernel_rfl) (by kernel_rfl) ?_
  simp only [List.take_succ_cons, List.take_zero, List.drop_succ_cons, List.drop_zero]
  repeat (go_big_quiet_step ((first | (go_at_call 32; exact nwAt_of (fAdd_u _ _ _ _)))))
  refine wpQuiet_nil ?_
  clear q
  rintro _ ⟨q, rfl⟩
  go_wp2
  exact bodyPost_ret (v := .agg #[.int .u64 (ad p a0 b0), .int .u64 (ad p a1 b1)]) (by simp [results, Try.results13, go_sem, k0, k1] <;> exact ⟨rfl, rfl⟩) rfl ⟨rfl, by have hqn := q.nw; exact by (repeat (first | exact Nw.refl _ _ | assumption | refine Nw.drew ?_ | refine Nw.drewN ?_ _ | refine Nw.set ?_ (by first | omega | (simp; done) | (simp; omega)) _ | refine Nw.made (Nat.le_refl _) ?_ _ _ | refine Nw.next (Nat.le_refl _) ?_ (by assumption)))⟩

set_option maxHeartbeats 2000000 in
theorem xSub_u (p a0 a1 b0 b1 : Int) [ha : U a0] [hc : U a1] [hb : U b0] [hd : U b1] (w : World) :
    Calls Try.prog 15 #[.agg #[.int .u64 p], .agg #[.int .u64 a0, .int .u64 a1], .agg #[.int .u64 b0, .int .u64 b1]] w fun e w' => e = .returned (.agg #[.int .u64 (sb p a0 b0), .int .u64 (sb p a1 b1)]) ∧ Nw w.heap.size w w' := by
  go_enter Try.func15, Try.ntmps15
  go_wp2
  refine name_world ?_
  intro W hW
  have hnw : Nw w.heap.size w W := by rw [hW]; (repeat (first | exact Nw.refl _ _ | refine Nw.drew ?_ | refine Nw.drewN ?_ _ | refine Nw.made (Nat.le_refl _) ?_ _ _))
  have s0 : W.cell? ⟨w.heap.size, 0, none⟩ = some (.int .u64 p) := by rw [hW]; go_simp
  have c0 := fun q : NwAt W => q.nw.hold s0
  have s1 : W.cell? ⟨w.heap.size + 1, 0, none⟩ = some (.int .u64 a0) := by rw [hW]; go_simp
  have c1 := fun q : NwAt W => q.nw.hold s1
  have s2 : W.cell? ⟨w.heap.size + 1, 1, none⟩ = some (.int .u64 a1) := by rw [hW]; go_simp
  have c2 := fun q : NwAt W => q.nw.hold s2
  have s3 : W.cell? ⟨w.heap.size + 1 + 1, 0, none⟩ = some (.int .u64 b0) := by rw [hW]; go_simp
  have c3 := fun q : NwAt W => q.nw.hold s3
  have s4 : W.cell? ⟨w.heap.size + 1 + 1, 1, none⟩ = some (.int .u64 b1) := by rw [hW]; go_simp
  have c4 := fun q : NwAt W => q.nw.hold s4
  have r0 : W.cell? ⟨w.heap.size + 1 + 1 + 1, 0, none⟩ = some (.int .u64 0) := by rw [hW]; go_simp
  have r1 : W.cell? ⟨w.heap.size + 1 + 1 + 1, 1, none⟩ = some (.int .u64 0) := by rw [hW]; go_simp
  have z0 : W.frozen? ⟨w.heap.size + 1 + 1 + 1, 0, none⟩ = false := by rw [hW]; go_simp
  have z1 : W.frozen? ⟨w.heap.size + 1 + 1 + 1, 1, none⟩ = false := by rw [hW]; go_simp
  have k0 := fun q : NwAt W => q.nw.hold r0
  have k1 := fun q : NwAt W => q.nw.hold r1
  have l0 := fun q : NwAt W => q.nw.holdf z0
  have l1 := fun q : NwAt W => q.nw.holdf z1
  clear hW
  refine from_here ?_
  intro q
  refine wp_region_nwt 13 (by kernel_rfl) (by kernel_rfl) ?_
  simp only [List.take_succ_cons, List.take_zero, List.drop_succ_cons, List.drop_zero]
  repeat (go_big_quiet_step ((first | (go_at_call 34; exact nwAt_of (fSub_u _ _ _ _)))))
  refine wpQuiet_nil ?_
  clear q
  rintro _ ⟨q, rfl⟩
  go_wp2
  exact bodyPost_ret (v := .agg #[.int .u64 (sb p a0 b0), .int .u64 (sb p a1 b1)]) (by simp [results, Try.results15, go_sem, k0, k1] <;> exact ⟨rfl, rfl⟩) rfl ⟨rfl, by have hqn := q.nw; exact by (repeat (first | exact Nw.refl _ _ | assumption | refine Nw.drew ?_ | refine Nw.drewN ?_ _ | refine Nw.set ?_ (by first | omega | (simp; done) | (simp; omega)) _ | refine Nw.made (Nat.le_refl _) ?_ _ _ | refine Nw.next (Nat.le_refl _) ?_ (by assumption)))⟩

set_option maxHeartbeats 2000000 in
theorem yAdd_u (p a0 a1 b0 b1 : Int) [_hp : U p] [ha : U a0] [hc : U a1] [hb : U b0] [hd : U b1] (w : World) :
    Calls Try.prog 14 #[.int .u64 p, .agg #[.int .u64 a0, .int .u64 a1], .agg #[.int .u64 b0, .int .u64 b1]] w fun e w' => e = .returned (.agg #[.int .u64 (ad p a0 b0), .int .u64 (ad p a1 b1)]) ∧ Nw w.heap.size w w' := by
  go_enter Try.func14, Try.ntmps14
  go_wp2
  refine name_world ?_
  intro W hW
  have hnw : Nw w.heap.size w W := by rw [hW]; (repeat (first | exact Nw.refl _ _ | refine Nw.drew ?_ | refine Nw.drewN ?_ _ | refine Nw.made (Nat.le_refl _) ?_ _ _))
  have s1 : W.cell? ⟨w.heap.size, 0, none⟩ = some (.int .u64 a0) := by rw [hW]; go_simp
  have c1 := fun q : NwAt W => q.nw.hold s1
  have s2 : W.cell? ⟨w.heap.size, 1, none⟩ = some (.int .u64 a1) := by rw [hW]; go_simp
  have c2 := fun q : NwAt W => q.nw.hold s2
  have s3 : W.cell? ⟨w.heap.size + 1, 0, none⟩ = some (.int .u64 b0) := by rw [hW]; go_simp
  have c3 := fun q : NwAt W => q.nw.hold s3
  have s4 : W.cell? ⟨w.heap.size + 1, 1, none⟩ = some (.int .u64 b1) := by rw [hW]; go_simp
  have c4 := fun q : NwAt W => q.nw.hold s4
  have r0 : W.cell? ⟨w.heap.size + 1 + 1, 0, none⟩ = some (.int .u64 0) := by rw [hW]; go_simp
  have r1 : W.cell? ⟨w.heap.size + 1 + 1, 1, none⟩ = some (.int .u64 0) := by rw [hW]; go_simp
  have z0 : W.frozen? ⟨w.heap.size + 1 + 1, 0, none⟩ = false := by rw [hW]; go_simp
  have z1 : W.frozen? ⟨w.heap.size + 1 + 1, 1, none⟩ = false := by rw [hW]; go_simp
  have k0 := fun q : NwAt W => q.nw.hold r0
  have k1 := fun q : NwAt W => q.nw.hold r1
  have l0 := fun q : NwAt W => q.nw.holdf z0
  have l1 := fun q : NwAt W => q.nw.holdf z1
  clear hW
  refine from_here ?_
  intro q
  refine wp_region_nwt 13 (by kernel_rfl) (by kernel_rfl) ?_
  simp only [List.take_succ_cons, List.take_zero, List.drop_succ_cons, List.drop_zero]
  repeat (go_big_quiet_step ((first | (go_at_call 33; exact nwAt_of (rAdd_u _ _ _ _)))))
  refine wpQuiet_nil ?_
  clear q
  rintro _ ⟨q, rfl⟩
  go_wp2
  exact bodyPost_ret (v := .agg #[.int .u64 (ad p a0 b0), .int .u64 (ad p a1 b1)]) (by simp [results, Try.results14, go_sem, k0, k1] <;> exact ⟨rfl, rfl⟩) rfl ⟨rfl, by have hqn := q.nw; exact by (repeat (first | exact Nw.refl _ _ | assumption | refine Nw.drew ?_ | refine Nw.drewN ?_ _ | refine Nw.set ?_ (by first | omega | (simp; done) | (simp; omega)) _ | refine Nw.made (Nat.le_refl _) ?_ _ _ | refine Nw.next (Nat.le_refl _) ?_ (by assumption)))⟩

set_option maxHeartbeats 2000000 in
theorem ySub_u (p a0 a1 b0 b1 : Int) [_hp : U p] [ha : U a0] [hc : U a1] [hb : U b0] [hd : U b1] (w : World) :
    Calls Try.prog 16 #[.int .u64 p, .agg #[.int .u64 a0, .int .u64 a1], .agg #[.int .u64 b0, .int .u64 b1]] w fun e w' => e = .returned (.agg #[.int .u64 (sb p a0 b0), .int .u64 (sb p a1 b1)]) ∧ Nw w.heap.size w w' := by
  go_enter Try.func16, Try.ntmps16
  go_wp2
  refine name_world ?_
  intro W hW
  have hnw : Nw w.heap.size w W := by rw [hW]; (repeat (first | exact Nw.refl _ _ | refine Nw.drew ?_ | refine Nw.drewN ?_ _ | refine Nw.made (Nat.le_refl _) ?_ _ _))
  have s1 : W.cell? ⟨w.heap.size, 0, none⟩ = some (.int .u64 a0) := by rw [hW]; go_simp
  have c1 := fun q : NwAt W => q.nw.hold s1
  have s2 : W.cell? ⟨w.heap.size, 1, none⟩ = some (.int .u64 a1) := by rw [hW]; go_simp
  have c2 := fun q : NwAt W => q.nw.hold s2
  have s3 : W.cell? ⟨w.heap.size + 1, 0, none⟩ = some (.int .u64 b0) := by rw [hW]; go_simp
  have c3 := fun q : NwAt W => q.nw.hold s3
  have s4 : W.cell? ⟨w.heap.size + 1, 1, none⟩ = some (.int .u64 b1) := by rw [hW]; go_simp
  have c4 := fun q : NwAt W => q.nw.hold s4
  have r0 : W.cell? ⟨w.heap.size + 1 + 1, 0, none⟩ = some (.int .u64 0) := by rw [hW]; go_simp
  have r1 : W.cell? ⟨w.heap.size + 1 + 1, 1, none⟩ = some (.int .u64 0) := by rw [hW]; go_simp
  have z0 : W.frozen? ⟨w.heap.size + 1 + 1, 0, none⟩ = false := by rw [hW]; go_simp
  have z1 : W.frozen? ⟨w.heap.size + 1 + 1, 1, none⟩ = false := by rw [hW]; go_simp
  have k0 := fun q : NwAt W => q.nw.hold r0
  have k1 := fun q : NwAt W => q.nw.hold r1
  have l0 := fun q : NwAt W => q.nw.holdf z0
  have l1 := fun q : NwAt W => q.nw.holdf z1
  clear hW
  refine from_here ?_
  intro q
  refine wp_region_nwt 13 (by kernel_rfl) (by kernel_rfl) ?_
  simp only [List.take_succ_cons, List.take_zero, List.drop_succ_cons, List.drop_zero]
  repeat (go_big_quiet_step ((first | (go_at_call 35; exact nwAt_of (rSub_u _ _ _ _)))))
  refine wpQuiet_nil ?_
  clear q
  rintro _ ⟨q, rfl⟩
  go_wp2
  exact bodyPost_ret (v := .agg #[.int .u64 (sb p a0 b0), .int .u64 (sb p a1 b1)]) (by simp [results, Try.results16, go_sem, k0, k1] <;> exact ⟨rfl, rfl⟩) rfl ⟨rfl, by have hqn := q.nw; exact by (repeat (first | exact Nw.refl _ _ | assumption | refine Nw.drew ?_ | refine Nw.drewN ?_ _ | refine Nw.set ?_ (by first | omega | (simp; done) | (simp; omega)) _ | refine Nw.made (Nat.le_refl _) ?_ _ _ | refine Nw.next (Nat.le_refl _) ?_ (by assumption)))⟩

set_option maxHeartbeats 2000000 in
theorem xMul_u (p a0 a1 b0 b1 : Int) [ha : U a0] [hc : U a1] [hb : U b0] [hd : U b1] (w : World) :
    Calls Try.prog 17 #[.agg #[.int .u64 p], .agg #[.int .u64 a0, .int .u64 a1], .agg #[.int .u64 b0, .int .u64 b1]] w fun e w' => e = .returned (.agg #[.int .u64 (m0 p a0 a1 b0 b1), .int .u64 (m1 p a0 a1 b0 b1)]) ∧ Nw w.heap.size w w' := by
  go_enter Try.func17, Try.ntmps17
  go_wp2
  refine name_world ?_
  intro W hW
  have hnw : Nw w.heap.size w W := by rw [hW]; (repeat (first | exact Nw.refl _ _ | refine Nw.drew ?_ | refine Nw.drewN ?_ _ | refine Nw.made (Nat.le_refl _) ?_ _ _))
  have s0 : W.cell? ⟨w.heap.size, 0, none⟩ = some (.int .u64 p) := by rw [hW]; go_simp
  have c0 := fun q : NwAt W => q.nw.hold s0
  have s1 : W.cell? ⟨w.heap.size + 1, 0, none⟩ = some (.int .u64 a0) := by rw [hW]; go_simp
  have c1 := fun q : NwAt W => q.nw.hold s1
  have s2 : W.cell? ⟨w.heap.size + 1, 1, none⟩ = some (.int .u64 a1) := by rw [hW]; go_simp
  have c2 := fun q : NwAt W => q.nw.hold s2
  have s3 : W.cell? ⟨w.heap.size + 1 + 1, 0, none⟩ = some (.int .u64 b0) := by rw [hW]; go_simp
  have c3 := fun q : NwAt W => q.nw.hold s3
  have s4 : W.cell? ⟨w.heap.size + 1 + 1, 1, none⟩ = some (.int .u64 b1) := by rw [hW]; go_simp
  have c4 := fun q : NwAt W => q.nw.hold s4
  have r0 : W.cell? ⟨w.heap.size + 1 + 1 + 1, 0, none⟩ = some (.int .u64 0) := by rw [hW]; go_simp
  have r1 : W.cell? ⟨w.heap.size + 1 + 1 + 1, 1, none⟩ = some (.int .u64 0) := by rw [hW]; go_simp
  have z0 : W.frozen? ⟨w.heap.size + 1 + 1 + 1, 0, none⟩ = false := by rw [hW]; go_simp
  have z1 : W.frozen? ⟨w.heap.size + 1 + 1 + 1, 1, none⟩ = false := by rw [hW]; go_simp
  have k0 := fun q : NwAt W => q.nw.hold r0
  have k1 := fun q : NwAt W => q.nw.hold r1
  have l0 := fun q : NwAt W => q.nw.holdf z0
  have l1 := fun q : NwAt W => q.nw.holdf z1
  clear hW
  refine from_here ?_
  intro q
  refine wp_region_nw (by kernel_rfl) (by kernel_rfl) ?_
  repeat (go_big_quiet_step ((first | (go_at_call 36; exact nwAt_of (fMul_u _ _ _ _)) | (go_at_call 37; exact nwAt_of (fGenerator_u _ _)))))
  refine wpQuiet_nil ?_
  clear q
  rintro _ ⟨q, rfl⟩
  go_wp2
  refine wp_region_nwt 24 (by kernel_rfl) (by kernel_rfl) ?_
  simp only [List.take_succ_cons, List.take_zero, List.drop_succ_cons, List.drop_zero]
  repeat (go_big_quiet_step ((first | (go_at_call 36; exact nwAt_of (fMul_u _ _ _ _)) | (go_at_call 32; exact nwAt_of (fAdd_u _ _ _ _)))))
  refine wpQuiet_nil ?_
  clear q
  rintro _ ⟨q, rfl⟩
  go_wp2
  exact bodyPost_ret (v := .agg #[.int .u64 (m0 p a0 a1 b0 b1), .int .u64 (m1 p a0 a1 b0 b1)]) (by simp [results, Try.results17, go_sem, k0, k1] <;> exact ⟨rfl, rfl⟩) rfl ⟨rfl, by have hqn := q.nw; exact by (repeat (first | exact Nw.refl _ _ | assumption | refine Nw.drew ?_ | refine Nw.drewN ?_ _ | refine Nw.set ?_ (by first | omega | (simp; done) | (simp; omega)) _ | refine Nw.made (Nat.le_refl _) ?_ _ _ | refine Nw.next (Nat.le_refl _) ?_ (by assumption)))⟩

set_option maxHeartbeats 2000000 in
theorem yMul_u (p a0 a1 b0 b1 : Int) [ha : U a0] [hc : U a1] [hb : U b0] [hd : U b1] (w : World) :
    Calls Try.prog 18 #[.int .u64 p, .agg #[.int .u64 a0, .int .u64 a1], .agg #[.int .u64 b0, .int .u64 b1]] w fun e w' => e = .returned (.agg #[.int .u64 (m0 p a0 a1 b0 b1), .int .u64 (m1 p a0 a1 b0 b1)]) ∧ Nw w.heap.size w w' := by
  go_enter Try.func18, Try.ntmps18
  go_upto_region 1 with fail
  refine name_world ?_
  intro W hW
  have hnw : Nw w.heap.size w W := by rw [hW]; (repeat (first | exact Nw.refl _ _ | refine Nw.drew ?_ | refine Nw.drewN ?_ _ | refine Nw.made (Nat.le_refl _) ?_ _ _))
  have s1 : W.cell? ⟨w.heap.size, 0, none⟩ = some (.int .u64 a0) := by rw [hW]; go_simp
  have c1 := fun q : NwAt W => q.nw.hold s1
  have s2 : W.cell? ⟨w.heap.size, 1, none⟩ = some (.int .u64 a1) := by rw [hW]; go_simp
  have c2 := fun q : NwAt W => q.nw.hold s2
  have s3 : W.cell? ⟨w.heap.size + 1, 0, none⟩ = some (.int .u64 b0) := by rw [hW]; go_simp
  have c3 := fun q : NwAt W => q.nw.hold s3
  have s4 : W.cell? ⟨w.heap.size + 1, 1, none⟩ = some (.int .u64 b1) := by rw [hW]; go_simp
  have c4 := fun q : NwAt W => q.nw.hold s4
  have r0 : W.cell? ⟨w.heap.size + 1 + 1, 0, none⟩ = some (.int .u64 0) := by rw [hW]; go_simp
  have r1 : W.cell? ⟨w.heap.size + 1 + 1, 1, none⟩ = some (.int .u64 0) := by rw [hW]; go_simp
  have z0 : W.frozen? ⟨w.heap.size + 1 + 1, 0, none⟩ = false := by rw [hW]; go_simp
  have z1 : W.frozen? ⟨w.heap.size + 1 + 1, 1, none⟩ = false := by rw [hW]; go_simp
  have k0 := fun q : NwAt W => q.nw.hold r0
  have k1 := fun q : NwAt W => q.nw.hold r1
  have l0 := fun q : NwAt W => q.nw.holdf z0
  have l1 := fun q : NwAt W => q.nw.holdf z1
  clear hW
  refine from_here ?_
  intro q
  go_wp2_with (first | (go_at_call 30; refine (nwAt_of (rMul_u _ _ _ _)).mono ?_; clear q; rintro _ _ ⟨rfl, q, rfl⟩))
  refine wp_region_nw (by kernel_rfl) (by kernel_rfl) ?_
  repeat (go_big_quiet_step ((first | (go_at_call 30; exact nwAt_of (rMul_u _ _ _ _)) | (go_at_call 38; exact nwAt_of (rGenerator_u _ _)))))
  refine wpQuiet_nil ?_
  clear q
  rintro _ ⟨q, rfl⟩
  go_wp2
  refine wp_region_nw (by kernel_rfl) (by kernel_rfl) ?_
  repeat (go_big_quiet_step ((first | (go_at_call 30; exact nwAt_of (rMul_u _ _ _ _)) | (go_at_call 33; exact nwAt_of (rAdd_u _ _ _ _)))))
  refine wpQuiet_nil ?_
  clear q
  rintro _ ⟨q, rfl⟩
  go_wp2_with (first | (go_at_call 33; refine (nwAt_of (rAdd_u _ _ _ _)).mono ?_; clear q; rintro _ _ ⟨rfl, q, rfl⟩))
  exact bodyPost_ret (v := .agg #[.int .u64 (m0 p a0 a1 b0 b1), .int .u64 (m1 p a0 a1 b0 b1)]) (by simp [results, Try.results18, go_sem, k0, k1] <;> exact ⟨rfl, rfl⟩) rfl ⟨rfl, by have hqn := q.nw; exact by (repeat (first | exact Nw.refl _ _ | assumption | refine Nw.drew ?_ | refine Nw.drewN ?_ _ | refine Nw.set ?_ (by first | omega | (simp; done) | (simp; omega)) _ | refine Nw.made (Nat.le_refl _) ?_ _ _ | refine Nw.next (Nat.le_refl _) ?_ (by assumption)))⟩

set_option maxHeartbeats 2000000 in
theorem xConjugate_u (p a0 a1 : Int) [ha : U a0] [hc : U a1] (w : World) :
    Calls Try.prog 19 #[.agg #[.int .u64 p], .agg #[.int .u64 a0, .int .u64 a1]] w fun e w' => e = .returned (.agg #[.int .u64 (rd p a0), .int .u64 (sb p 0 a1)]) ∧ Nw w.heap.size w w' := by
  go_enter Try.func19, Try.ntmps19
  go_wp2
  refine name_world ?_
  intro W hW
  have hnw : Nw w.heap.size w W := by rw [hW]; (repeat (first | exact Nw.refl _ _ | refine Nw.drew ?_ | refine Nw.drewN ?_ _ | refine Nw.made (Nat.le_refl _) ?_ _ _))
  have s0 : W.cell? ⟨w.heap.size, 0, none⟩ = some (.int .u64 p) := by rw [hW]; go_simp
  have c0 := fun q : NwAt W => q.nw.hold s0
  have s1 : W.cell? ⟨w.heap.size + 1, 0, none⟩ = some (.int .u64 a0) := by rw [hW]; go_simp
  have c1 := fun q : NwAt W => q.nw.hold s1
  have s2 : W.cell? ⟨w.heap.size + 1, 1, none⟩ = some (.int .u64 a1) := by rw [hW]; go_simp
  have c2 := fun q : NwAt W => q.nw.hold s2
  have r0 : W.cell? ⟨w.heap.size + 1 + 1, 0, none⟩ = some (.int .u64 0) := by rw [hW]; go_simp
  have r1 : W.cell? ⟨w.heap.size + 1 + 1, 1, none⟩ = some (.int .u64 0) := by rw [hW]; go_simp
  have z0 : W.frozen? ⟨w.heap.size + 1 + 1, 0, none⟩ = false := by rw [hW]; go_simp
  have z1 : W.frozen? ⟨w.heap.size + 1 + 1, 1, none⟩ = false := by rw [hW]; go_simp
  have k0 := fun q : NwAt W => q.nw.hold r0
  have k1 := fun q : NwAt W => q.nw.hold r1
  have l0 := fun q : NwAt W => q.nw.holdf z0
  have l1 := fun q : NwAt W => q.nw.holdf z1
  clear hW
  refine from_here ?_
  intro q
  refine wp_region_nwt 9 (by kernel_rfl) (by kernel_rfl) ?_
  simp only [List.take_succ_cons, List.take_zero, List.drop_succ_cons, List.drop_zero]
  repeat (go_big_quiet_step ((first | (go_at_call 39; exact nwAt_of (fReduce_u _ _ _)) | (go_at_call 40; exact nwAt_of (fNeg_u _ _ _)))))
  refine wpQuiet_nil ?_
  clear q
  rintro _ ⟨q, rfl⟩
  go_wp2
  exact bodyPost_ret (v := .agg #[.int .u64 (rd p a0), .int .u64 (sb p 0 a1)]) (by simp [results, Try.results19, go_sem, k0, k1] <;> exact ⟨rfl, rfl⟩) rfl ⟨rfl, by have hqn := q.nw; exact by (repeat (first | exact Nw.refl _ _ | assumption | refine Nw.drew ?_ | refine Nw.drewN ?_ _ | refine Nw.set ?_ (by first | omega | (simp; done) | (simp; omega)) _ | refine Nw.made (Nat.le_refl _) ?_ _ _ | refine Nw.next (Nat.le_refl _) ?_ (by assumption)))⟩

set_option maxHeartbeats 2000000 in
theorem yConjugate_u (p a0 a1 : Int) [hp : U p] [ha : U a0] [hc : U a1] (w : World) :
    Calls Try.prog 20 #[.int .u64 p, .agg #[.int .u64 a0, .int .u64 a1]] w fun e w' => e = .returned (.agg #[.int .u64 (rd p a0), .int .u64 (sb p 0 a1)]) ∧ Nw w.heap.size w w' := by
  go_enter Try.func20, Try.ntmps20
  go_wp2
  refine name_world ?_
  intro W hW
  have hnw : Nw w.heap.size w W := by rw [hW]; (repeat (first | exact Nw.refl _ _ | refine Nw.drew ?_ | refine Nw.drewN ?_ _ | refine Nw.made (Nat.le_refl _) ?_ _ _))
  have s1 : W.cell? ⟨w.heap.size, 0, none⟩ = some (.int .u64 a0) := by rw [hW]; go_simp
  have c1 := fun q : NwAt W => q.nw.hold s1
  have s2 : W.cell? ⟨w.heap.size, 1, none⟩ = some (.int .u64 a1) := by rw [hW]; go_simp
  have c2 := fun q : NwAt W => q.nw.hold s2
  have r0 : W.cell? ⟨w.heap.size + 1, 0, none⟩ = some (.int .u64 0) := by rw [hW]; go_simp
  have r1 : W.cell? ⟨w.heap.size + 1, 1, none⟩ = some (.int .u64 0) := by rw [hW]; go_simp
  have z0 : W.frozen? ⟨w.heap.size + 1, 0, none⟩ = false := by rw [hW]; go_simp
  have z1 : W.frozen? ⟨w.heap.size + 1, 1, none⟩ = false := by rw [hW]; go_simp
  have k0 := fun q : NwAt W => q.nw.hold r0
  have k1 := fun q : NwAt W => q.nw.hold r1
  have l0 := fun q : NwAt W => q.nw.holdf z0
  have l1 := fun q : NwAt W => q.nw.holdf z1
  clear hW
  refine from_here ?_
  intro q
  refine wp_region_nwt 9 (by kernel_rfl) (by kernel_rfl) ?_
  simp only [List.take_succ_cons, List.take_zero, List.drop_succ_cons, List.drop_zero]
  repeat (go_big_quiet_step ((first | (go_at_call 41; exact nwAt_of (rReduce_u _ _ _)) | (go_at_call 42; exact nwAt_of (rNeg_u _ _ _)))))
  refine wpQuiet_nil ?_
  clear q
  rintro _ ⟨q, rfl⟩
  go_wp2
  exact bodyPost_ret (v := .agg #[.int .u64 (rd p a0), .int .u64 (sb p 0 a1)]) (by simp [results, Try.results20, go_sem, k0, k1] <;> exact ⟨rfl, rfl⟩) rfl ⟨rfl, by have hqn := q.nw; exact by (repeat (first | exact Nw.refl _ _ | assumption | refine Nw.drew ?_ | refine Nw.drewN ?_ _ | refine Nw.set ?_ (by first | omega | (simp; done) | (simp; omega)) _ | refine Nw.made (Nat.le_refl _) ?_ _ _ | refine Nw.next (Nat.le_refl _) ?_ (by assumption)))⟩

set_option maxHeartbeats 2000000 in
theorem xScale_u (p a0 a1 n : Int) [ha : U a0] [hc : U a1] [hn : U n] (w : World) :
    Calls Try.prog 25 #[.agg #[.int .u64 p], .agg #[.int .u64 a0, .int .u64 a1], .int .u64 n] w fun e w' => e = .returned (.agg #[.int .u64 (ml p a0 n), .int .u64 (ml p a1 n)]) ∧ Nw w.heap.size w w' := by
  go_enter Try.func25, Try.ntmps25
  go_wp2
  refine name_world ?_
  intro W hW
  have hnw : Nw w.heap.size w W := by rw [hW]; (repeat (first | exact Nw.refl _ _ | refine Nw.drew ?_ | refine Nw.drewN ?_ _ | refine Nw.made (Nat.le_refl _) ?_ _ _))
  have s0 : W.cell? ⟨w.heap.size, 0, none⟩ = some (.int .u64 p) := by rw [hW]; go_simp
  have c0 := fun q : NwAt W => q.nw.hold s0
  have s1 : W.cell? ⟨w.heap.size + 1, 0, none⟩ = some (.int .u64 a0) := by rw [hW]; go_simp
  have c1 := fun q : NwAt W => q.nw.hold s1
  have s2 : W.cell? ⟨w.heap.size + 1, 1, none⟩ = some (.int .u64 a1) := by rw [hW]; go_simp
  have c2 := fun q : NwAt W => q.nw.hold s2
  have r0 : W.cell? ⟨w.heap.size + 1 + 1, 0, none⟩ = some (.int .u64 0) := by rw [hW]; go_simp
  have r1 : W.cell? ⟨w.heap.size + 1 + 1, 1, none⟩ = some (.int .u64 0) := by rw [hW]; go_simp
  have z0 : W.frozen? ⟨w.heap.size + 1 + 1, 0, none⟩ = false := by rw [hW]; go_simp
  have z1 : W.frozen? ⟨w.heap.size + 1 + 1, 1, none⟩ = false := by rw [hW]; go_simp
  have k0 := fun q : NwAt W => q.nw.hold r0
  have k1 := fun q : NwAt W => q.nw.hold r1
  have l0 := fun q : NwAt W => q.nw.holdf z0
  have l1 := fun q : NwAt W => q.nw.holdf z1
  clear hW
  refine from_here ?_
  intro q
  refine wp_region_nwt 11 (by kernel_rfl) (by kernel_rfl) ?_
  simp only [List.take_succ_cons, List.take_zero, List.drop_succ_cons, List.drop_zero]
  repeat (go_big_quiet_step ((first | (go_at_call 36; exact nwAt_of (fMul_u _ _ _ _)))))
  refine wpQuiet_nil ?_
  clear q
  rintro _ ⟨q, rfl⟩
  go_wp2
  exact bodyPost_ret (v := .agg #[.int .u64 (ml p a0 n), .int .u64 (ml p a1 n)]) (by simp [results, Try.results25, go_sem, k0, k1] <;> exact ⟨rfl, rfl⟩) rfl ⟨rfl, by have hqn := q.nw; exact by (repeat (first | exact Nw.refl _ _ | assumption | refine Nw.drew ?_ | refine Nw.drewN ?_ _ | refine Nw.set ?_ (by first | omega | (simp; done) | (simp; omega)) _ | refine Nw.made (Nat.le_refl _) ?_ _ _ | refine Nw.next (Nat.le_refl _) ?_ (by assumption)))⟩

set_option maxHeartbeats 2000000 in
theorem yScale_u (p a0 a1 n : Int) [ha : U a0] [hc : U a1] [hn : U n] (w : World) :
    Calls Try.prog 26 #[.int .u64 p, .agg #[.int .u64 a0, .int .u64 a1], .int .u64 n] w fun e w' => e = .returned (.agg #[.int .u64 (ml p a0 n), .int .u64 (ml p a1 n)]) ∧ Nw w.heap.size w w' := by
  go_enter Try.func26, Try.ntmps26
  go_wp2
  refine name_world ?_
  intro W hW
  have hnw : Nw w.heap.size w W := by rw [hW]; (repeat (first | exact Nw.refl _ _ | refine Nw.drew ?_ | refine Nw.drewN ?_ _ | refine Nw.made (Nat.le_refl _) ?_ _ _))
  have s1 : W.cell? ⟨w.heap.size, 0, none⟩ = some (.int .u64 a0) := by rw [hW]; go_simp
  have c1 := fun q : NwAt W => q.nw.hold s1
  have s2 : W.cell? ⟨w.heap.size, 1, none⟩ = some (.int .u64 a1) := by rw [hW]; go_simp
  have c2 := fun q : NwAt W => q.nw.hold s2
  have r0 : W.cell? ⟨w.heap.size + 1, 0, none⟩ = some (.int .u64 0) := by rw [hW]; go_simp
  have r1 : W.cell? ⟨w.heap.size + 1, 1, none⟩ = some (.int .u64 0) := by rw [hW]; go_simp
  have z0 : W.frozen? ⟨w.heap.size + 1, 0, none⟩ = false := by rw [hW]; go_simp
  have z1 : W.frozen? ⟨w.heap.size + 1, 1, none⟩ = false := by rw [hW]; go_simp
  have k0 := fun q : NwAt W => q.nw.hold r0
  have k1 := fun q : NwAt W => q.nw.hold r1
  have l0 := fun q : NwAt W => q.nw.holdf z0
  have l1 := fun q : NwAt W => q.nw.holdf z1
  clear hW
  refine from_here ?_
  intro q
  refine wp_region_nwt 11 (by kernel_rfl) (by kernel_rfl) ?_
  simp only [List.take_succ_cons, List.take_zero, List.drop_succ_cons, List.drop_zero]
  repeat (go_big_quiet_step ((first | (go_at_call 30; exact nwAt_of (rMul_u _ _ _ _)))))
  refine wpQuiet_nil ?_
  clear q
  rintro _ ⟨q, rfl⟩
  go_wp2
  exact bodyPost_ret (v := .agg #[.int .u64 (ml p a0 n), .int .u64 (ml p a1 n)]) (by simp [results, Try.results26, go_sem, k0, k1] <;> exact ⟨rfl, rfl⟩) rfl ⟨rfl, by have hqn := q.nw; exact by (repeat (first | exact Nw.refl _ _ | assumption | refine Nw.drew ?_ | refine Nw.drewN ?_ _ | refine Nw.set ?_ (by first | omega | (simp; done) | (simp; omega)) _ | refine Nw.made (Nat.le_refl _) ?_ _ _ | refine Nw.next (Nat.le_refl _) ?_ (by assumption)))⟩
end Go.Proofs.Ytkpgejaamhkdnaa
