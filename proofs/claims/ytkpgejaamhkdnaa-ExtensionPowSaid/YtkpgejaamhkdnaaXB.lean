/- The walks of the norm and of the inverse. -/
import Derived.Test.YtkpgejaamhkdnaaXA
namespace Go.Proofs.Ytkpgejaamhkdnaa
open Go.RowKit Go.BigFrame Ext

set_option maxHeartbeats 2000000 in
theorem xNorm_u (p a0 a1 : Int) [ha : U a0] [hc : U a1] (w : World) :
    Calls Try.prog 21 #[.agg #[.int .u64 p], .agg #[.int .u64 a0, .int .u64 a1]] w fun e w' => e = .returned (.int .u64 (nm p a0 a1)) ∧ Nw w.heap.size w w' := by
  go_enter Try.func21, Try.ntmps21
  go_wp2
  refine name_world ?_
  intro W hW
  have hnw : Nw w.heap.size w W := by rw [hW]; (repeat (first | exact Nw.refl _ _ | refine Nw.drew ?_ | refine Nw.drewN ?_ _ | refine Nw.made (Nat.le_refl _) ?_ _ _))
  have s0 : W.cell? ⟨w.heap.size, 0, none⟩ = some (.int .u64 p) := by rw [hW]; go_simp
  have c0 := fun q : NwAt W => q.nw.hold s0
  have s1 : W.cell? ⟨w.heap.size + 1, 0, none⟩ = some (.int .u64 a0) := by rw [hW]; go_simp
  have c1 := fun q : NwAt W => q.nw.hold s1
  have s2 : W.cell? ⟨w.heap.size + 1, 1, none⟩ = some (.int .u64 a1) := by rw [hW]; go_simp
  have c2 := fun q : NwAt W => q.nw.hold s2
  clear hW
  refine from_here ?_
  intro q
  refine wp_region_nw (by kernel_rfl) (by kernel_rfl) ?_
  repeat (go_big_quiet_step ((first | (go_at_call 36; exact nwAt_of (fMul_u _ _ _ _)) | (go_at_call 37; exact nwAt_of (fGenerator_u _ _)) | (go_at_call 34; exact nwAt_of (fSub_u _ _ _ _)))))
  refine wpQuiet_nil ?_
  clear q
  rintro _ ⟨q, rfl⟩
  go_wp2
  go_ret
  exact ⟨ret_int (nm_sub p a0 a1), by have hqn := q.nw; exact by (repeat (first | exact Nw.refl _ _ | assumption | refine Nw.drew ?_ | refine Nw.drewN ?_ _ | refine Nw.set ?_ (by first | omega | (simp; done) | (simp; omega)) _ | refine Nw.made (Nat.le_refl _) ?_ _ _ | refine Nw.next (Nat.le_refl _) ?_ (by assumption)))⟩

set_option maxHeartbeats 2000000 in
theorem yNorm_u (p a0 a1 : Int) [hp : U p] [ha : U a0] [hc : U a1] (w : World) :
    Calls Try.prog 22 #[.int .u64 p, .agg #[.int .u64 a0, .int .u64 a1]] w fun e w' => e = .returned (.int .u64 (nm p a0 a1)) ∧ Nw w.heap.size w w' := by
  have hix : ∀ (x y : Int) (w : World), (Instr.index 23 (.agg #[.int .u64 x, .int .u64 y]) (.int .i64 0)).run Try.prog w = .ok (.int .u64 x) w := fun _ _ _ => by kernel_rfl
  go_enter Try.func22, Try.ntmps22
  go_wp2
  refine name_world ?_
  intro W hW
  have hnw : Nw w.heap.size w W := by rw [hW]; (repeat (first | exact Nw.refl _ _ | refine Nw.drew ?_ | refine Nw.drewN ?_ _ | refine Nw.made (Nat.le_refl _) ?_ _ _))
  have s1 : W.cell? ⟨w.heap.size, 0, none⟩ = some (.int .u64 a0) := by rw [hW]; go_simp
  have c1 := fun q : NwAt W => q.nw.hold s1
  have s2 : W.cell? ⟨w.heap.size, 1, none⟩ = some (.int .u64 a1) := by rw [hW]; go_simp
  have c2 := fun q : NwAt W => q.nw.hold s2
  clear hW
  refine from_here ?_
  intro q
  refine wp_region_nw (by kernel_rfl) (by kernel_rfl) ?_
  repeat (go_big_quiet_step ((first | (go_at_call 20; exact nwAt_of (yConjugate_u _ _ _ _)) | (go_at_call 18; exact nwAt_of (yMul_u _ _ _ _ _ _)))))
  refine wpQuiet_nil ?_
  clear q
  rintro _ ⟨q, rfl⟩
  go_wp2
  go_ret
  exact ⟨rfl, by have hqn := q.nw; exact by (repeat (first | exact Nw.refl _ _ | assumption | refine Nw.drew ?_ | refine Nw.drewN ?_ _ | refine Nw.set ?_ (by first | omega | (simp; done) | (simp; omega)) _ | refine Nw.made (Nat.le_refl _) ?_ _ _ | refine Nw.next (Nat.le_refl _) ?_ (by assumption)))⟩

set_option maxHeartbeats 2000000 in
theorem xInv_u (p a0 a1 : Int) [hp : U p] [ha : U a0] [hc : U a1] (w : World) :
    Calls Try.prog 23 #[.agg #[.int .u64 p], .agg #[.int .u64 a0, .int .u64 a1]] w fun e w' => e = .returned (.agg #[.int .u64 (i0 p a0 a1), .int .u64 (i1 p a0 a1)]) ∧ Nw w.heap.size w w' := by
  go_enter Try.func23, Try.ntmps23
  go_wp2
  refine name_world ?_
  intro W hW
  have hnw : Nw w.heap.size w W := by rw [hW]; (repeat (first | exact Nw.refl _ _ | refine Nw.drew ?_ | refine Nw.drewN ?_ _ | refine Nw.made (Nat.le_refl _) ?_ _ _))
  have s0 : W.cell? ⟨w.heap.size, 0, none⟩ = some (.int .u64 p) := by rw [hW]; go_simp
  have c0 := fun q : NwAt W => q.nw.hold s0
  have s1 : W.cell? ⟨w.heap.size + 1, 0, none⟩ = some (.int .u64 a0) := by rw [hW]; go_simp
  have c1 := fun q : NwAt W => q.nw.hold s1
  have s2 : W.cell? ⟨w.heap.size + 1, 1, none⟩ = some (.int .u64 a1) := by rw [hW]; go_simp
  have c2 := fun q : NwAt W => q.nw.hold s2
  have r0 : W.cell? ⟨w.heap.size + 1 + 1, 0, none⟩ = some (.int .u64 0) := by rw [hW]; go_simp
  have r1 : W.cell? ⟨w.heap.size + 1 + 1, 1, none⟩ = some (.int .u64 0) := by rw [hW]; go_simp
  have z0 : W.frozen? ⟨w.heap.size + 1 + 1, 0, none⟩ = false := by rw [hW]; go_simp
  have z1 : W.frozen? ⟨w.heap.size + 1 + 1, 1, none⟩ = false := by rw [hW]; go_simp
  have k0 := fun q : NwAt W => q.nw.hold r0
  have k1 := fun q : NwAt W => q.nw.hold r1
  have l0 := fun q : NwAt W => q.nw.holdf z0
  have l1 := fun q : NwAt W => q.nw.holdf z1
  clear hW
  refine from_here ?_
  intro q
  refine wp_region_nwt 10 (by kernel_rfl) (by kernel_rfl) ?_
  simp only [List.take_succ_cons, List.take_zero, List.drop_succ_cons, List.drop_zero]
  repeat (go_big_quiet_step ((first | (go_at_call 19; exact nwAt_of (xConjugate_u _ _ _ _)) | (go_at_call 21; exact nwAt_of (xNorm_u _ _ _ _)) | (go_at_call 43; exact nwAt_of (fInv_u _ _ _)) | (go_at_call 25; exact nwAt_of (xScale_u _ _ _ _ _)))))
  refine wpQuiet_nil ?_
  clear q
  rintro _ ⟨q, rfl⟩
  go_wp2
  exact bodyPost_ret (v := .agg #[.int .u64 (i0 p a0 a1), .int .u64 (i1 p a0 a1)]) (by simp [results, Try.results23, go_sem, k0, k1] <;> exact ⟨rfl, rfl⟩) rfl ⟨rfl, by have hqn := q.nw; exact by (repeat (first | exact Nw.refl _ _ | assumption | refine Nw.drew ?_ | refine Nw.drewN ?_ _ | refine Nw.set ?_ (by first | omega | (simp; done) | (simp; omega)) _ | refine Nw.made (Nat.le_refl _) ?_ _ _ | refine Nw.next (Nat.le_refl _) ?_ (by assumption)))⟩

set_option maxHeartbeats 2000000 in
theorem yInv_u (p a0 a1 : Int) [hp : U p] [ha : U a0] [hc : U a1] (w : World) :
    Calls Try.prog 24 #[.int .u64 p, .agg #[.int .u64 a0, .int .u64 a1]] w fun e w' => e = .returned (.agg #[.int .u64 (i0 p a0 a1), .int .u64 (i1 p a0 a1)]) ∧ Nw w.heap.size w w' := by
  go_enter Try.func24, Try.ntmps24
  go_wp2
  refine name_world ?_
  intro W hW
  have hnw : Nw w.heap.size w W := by rw [hW]; (repeat (first | exact Nw.refl _ _ | refine Nw.drew ?_ | refine Nw.drewN ?_ _ | refine Nw.made (Nat.le_refl _) ?_ _ _))
  have s1 : W.cell? ⟨w.heap.size, 0, none⟩ = some (.int .u64 a0) := by rw [hW]; go_simp
  have c1 := fun q : NwAt W => q.nw.hold s1
  have s2 : W.cell? ⟨w.heap.size, 1, none⟩ = some (.int .u64 a1) := by rw [hW]; go_simp
  have c2 := fun q : NwAt W => q.nw.hold s2
  have r0 : W.cell? ⟨w.heap.size + 1, 0, none⟩ = some (.int .u64 0) := by rw [hW]; go_simp
  have r1 : W.cell? ⟨w.heap.size + 1, 1, none⟩ = some (.int .u64 0) := by rw [hW]; go_simp
  have z0 : W.frozen? ⟨w.heap.size + 1, 0, none⟩ = false := by rw [hW]; go_simp
  have z1 : W.frozen? ⟨w.heap.size + 1, 1, none⟩ = false := by rw [hW]; go_simp
  have k0 := fun q : NwAt W => q.nw.hold r0
  have k1 := fun q : NwAt W => q.nw.hold r1
  have l0 := fun q : NwAt W => q.nw.holdf z0
  have l1 := fun q : NwAt W => q.nw.holdf z1
  clear hW
  refine from_here ?_
  intro q
  refine wp_region_nwt 10 (by kernel_rfl) (by kernel_rfl) ?_
  simp only [List.take_succ_cons, List.take_zero, List.drop_succ_cons, List.drop_zero]
  repeat (go_big_quiet_step ((first | (go_at_call 20; exact nwAt_of (yConjugate_u _ _ _ _)) | (go_at_call 22; exact nwAt_of (yNorm_u _ _ _ _)) | (go_at_call 44; exact nwAt_of (rInv_u _ _ _)) | (go_at_call 26; exact nwAt_of (yScale_u _ _ _ _ _)))))
  refine wpQuiet_nil ?_
  clear q
  rintro _ ⟨q, rfl⟩
  go_wp2
  exact bodyPost_ret (v := .agg #[.int .u64 (i0 p a0 a1), .int .u64 (i1 p a0 a1)]) (by simp [results, Try.results24, go_sem, k0, k1] <;> exact ⟨rfl, rfl⟩) rfl ⟨rfl, by have hqn := q.nw; exact by (repeat (first | exact Nw.refl _ _ | assumption | refine Nw.drew ?_ | refine Nw.drewN ?_ _ | refine Nw.set ?_ (by first | omega | (simp; done) | (simp; omega)) _ | refine Nw.made (Nat.le_refl _) ?_ _ _ | refine Nw.next (Nat.le_refl _) ?_ (by assumption)))⟩
end Go.Proofs.Ytkpgejaamhkdnaa
