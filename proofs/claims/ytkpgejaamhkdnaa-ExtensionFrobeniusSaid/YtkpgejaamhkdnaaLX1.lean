/- The walks of the statements on the extension's operations. -/
import Derived.Test.YtkpgejaamhkdnaaXL
namespace Go.Proofs.Ytkpgejaamhkdnaa
open Go.RowKit Go.BigFrame Ext

theorem drew_hold {w : World} {a : Addr} {v : Value} (h : w.cell? a = some v) : w.drew.cell? a = some v := h
theorem beq_true {a b : Int} (h : a = b) : (a == b) = true := by rw [beq_iff_eq]; exact h
theorem beq_false {a b : Int} (h : a ≠ b) : (a == b) = false := by simpa using h
instance {n : Int} : U (prime n) := known_u (prime_known n)
instance {P K : Int} [hP : U P] : U (pr2 P K) := by
  unfold pr2; split
  · exact hP
  · infer_instance

set_option maxRecDepth 100000 in
set_option maxHeartbeats 40000000 in
theorem law_xarith (P K a0 a1 b0 b1 : Int) [hP : U P] (hK : 0 ≤ K) (hK' : K ≤ 255) [ha : U a0] [hc : U a1] [hb : U b0] [hd : U b1] (w : World) :
    Calls Try.prog 3 #[.agg #[.int .u64 P, .int .u8 K, .int .u64 a0, .int .u64 a1, .int .u64 b0, .int .u64 b1]] w fun e w' => e = .returned (.bool true) ∧ Nw w.heap.size w w' := by
  have heq := eq_pair
  go_enter Try.func3, Try.ntmps3
  go_upto_region 1 with fail
  refine name_world ?_
  intro W hW
  have hnw : Nw w.heap.size w W := by rw [hW]; (repeat (first | exact Nw.refl _ _ | refine Nw.drew ?_ | refine Nw.drewN ?_ _ | refine Nw.made (Nat.le_refl _) ?_ _ _))
  have s0 : W.cell? ⟨w.heap.size, 0, none⟩ = some (.int .u64 P) := by rw [hW]; go_simp
  have c0 := fun q : NwAt W => q.nw.hold s0
  have s9 : W.cell? ⟨w.heap.size, 1, none⟩ = some (.int .u8 K) := by rw [hW]; go_simp
  have c9 := fun q : NwAt W => q.nw.hold s9
  have s1 : W.cell? ⟨w.heap.size, 2, none⟩ = some (.int .u64 a0) := by rw [hW]; go_simp
  have c1 := fun q : NwAt W => q.nw.hold s1
  have s2 : W.cell? ⟨w.heap.size, 3, none⟩ = some (.int .u64 a1) := by rw [hW]; go_simp
  have c2 := fun q : NwAt W => q.nw.hold s2
  have s3 : W.cell? ⟨w.heap.size, 4, none⟩ = some (.int .u64 b0) := by rw [hW]; go_simp
  have c3 := fun q : NwAt W => q.nw.hold s3
  have s4 : W.cell? ⟨w.heap.size, 5, none⟩ = some (.int .u64 b1) := by rw [hW]; go_simp
  have c4 := fun q : NwAt W => q.nw.hold s4
  clear hW
  refine from_here ?_
  intro q
  go_upto_region 5 with (first | (go_at_call 11; refine (nwAt_of (awake2_u _)).mono ?_; clear q; rintro _ _ ⟨rfl, q, rfl⟩) | (go_at_call 12; refine (nwAt_of (prime2_u _ _ _ _ _ _ hK hK' _)).mono ?_; clear q; rintro _ _ ⟨rfl, q, rfl⟩))
  refine name_world ?_
  rename NwAt W => qo
  have hnV := Nw.made (Nat.le_refl _) (Nw.next (Nat.le_refl _) hnw qo.nw) #[.int .u64 (pr2 P K)] 29
  have k := Nw.made (Nat.le_refl _) (Nw.refl qo.out.heap.size qo.out) #[.int .u64 (pr2 P K)] 29
  have hf : (qo.out.alloc (.cells #[.int .u64 (pr2 P K)] 29)).cell? ⟨qo.out.heap.size, 0, none⟩ = some (.int .u64 (pr2 P K)) := by go_simp
  intro V hV
  rw [← hV] at hnV k hf
  clear hV
  have cf := fun q : NwAt V => q.nw.hold hf
  replace c0 := fun q : NwAt V => q.nw.hold (k.hold (c0 qo))
  replace c1 := fun q : NwAt V => q.nw.hold (k.hold (c1 qo))
  replace c2 := fun q : NwAt V => q.nw.hold (k.hold (c2 qo))
  replace c3 := fun q : NwAt V => q.nw.hold (k.hold (c3 qo))
  replace c4 := fun q : NwAt V => q.nw.hold (k.hold (c4 qo))
  refine from_here ?_
  intro q
  refine wp_region_nw (by kernel_rfl) (by kernel_rfl) ?_
  repeat (go_big_quiet_step ((first | (go_at_call 13; exact nwAt_of (xAdd_u _ _ _ _ _ _)) | (go_at_call 14; exact nwAt_of (yAdd_u _ _ _ _ _ _)) | (go_at_call 15; exact nwAt_of (xSub_u _ _ _ _ _ _)) | (go_at_call 16; exact nwAt_of (ySub_u _ _ _ _ _ _)) | (go_at_call 17; exact nwAt_of (xMul_u _ _ _ _ _ _)) | (go_at_call 18; exact nwAt_of (yMul_u _ _ _ _ _ _)))))
  refine wpQuiet_nil ?_
  clear q
  rintro _ ⟨q, rfl⟩
  go_wp2
  go_ret
  exact ⟨rfl, by have hqn := q.nw; exact by (repeat (first | exact Nw.refl _ _ | assumption | refine Nw.drew ?_ | refine Nw.drewN ?_ _ | refine Nw.set ?_ (by first | omega | (simp; done) | (simp; omega)) _ | refine Nw.made (Nat.le_refl _) ?_ _ _ | refine Nw.next (Nat.le_refl _) ?_ (by assumption)))⟩

set_option maxRecDepth 100000 in
set_option maxHeartbeats 40000000 in
theorem law_xsingle (P K a0 a1 b0 b1 n : Int) [hP : U P] (hK : 0 ≤ K) (hK' : K ≤ 255) [ha : U a0] [hc : U a1] [hn : U n] (w : World) :
    Calls Try.prog 4 #[.agg #[.int .u64 P, .int .u8 K, .int .u64 a0, .int .u64 a1, .int .u64 b0, .int .u64 b1], .int .u64 n] w fun e w' => e = .returned (.bool true) ∧ Nw w.heap.size w w' := by
  have heq := eq_pair
  go_enter Try.func4, Try.ntmps4
  go_upto_region 1 with fail
  refine name_world ?_
  intro W hW
  have hnw : Nw w.heap.size w W := by rw [hW]; (repeat (first | exact Nw.refl _ _ | refine Nw.drew ?_ | refine Nw.drewN ?_ _ | refine Nw.made (Nat.le_refl _) ?_ _ _))
  have s0 : W.cell? ⟨w.heap.size, 0, none⟩ = some (.int .u64 P) := by rw [hW]; go_simp
  have c0 := fun q : NwAt W => q.nw.hold s0
  have s9 : W.cell? ⟨w.heap.size, 1, none⟩ = some (.int .u8 K) := by rw [hW]; go_simp
  have c9 := fun q : NwAt W => q.nw.hold s9
  have s1 : W.cell? ⟨w.heap.size, 2, none⟩ = some (.int .u64 a0) := by rw [hW]; go_simp
  have c1 := fun q : NwAt W => q.nw.hold s1
  have s2 : W.cell? ⟨w.heap.size, 3, none⟩ = some (.int .u64 a1) := by rw [hW]; go_simp
  have c2 := fun q : NwAt W => q.nw.hold s2
  have s3 : W.cell? ⟨w.heap.size, 4, none⟩ = some (.int .u64 b0) := by rw [hW]; go_simp
  have c3 := fun q : NwAt W => q.nw.hold s3
  have s4 : W.cell? ⟨w.heap.size, 5, none⟩ = some (.int .u64 b1) := by rw [hW]; go_simp
  have c4 := fun q : NwAt W => q.nw.hold s4
  clear hW
  refine from_here ?_
  intro q
  go_upto_region 5 with (first | (go_at_call 11; refine (nwAt_of (awake2_u _)).mono ?_; clear q; rintro _ _ ⟨rfl, q, rfl⟩) | (go_at_call 12; refine (nwAt_of (prime2_u _ _ _ _ _ _ hK hK' _)).mono ?_; clear q; rintro _ _ ⟨rfl, q, rfl⟩))
  refine name_world ?_
  rename NwAt W => qo
  have hnV := Nw.made (Nat.le_refl _) (Nw.next (Nat.le_refl _) hnw qo.nw) #[.int .u64 (pr2 P K)] 29
  have k := Nw.made (Nat.le_refl _) (Nw.refl qo.out.heap.size qo.out) #[.int .u64 (pr2 P K)] 29
  have hf : (qo.out.alloc (.cells #[.int .u64 (pr2 P K)] 29)).cell? ⟨qo.out.heap.size, 0, none⟩ = some (.int .u64 (pr2 P K)) := by go_simp
  intro V hV
  rw [← hV] at hnV k hf
  clear hV
  have cf := fun q : NwAt V => q.nw.hold hf
  replace c0 := fun q : NwAt V => q.nw.hold (k.hold (c0 qo))
  replace c1 := fun q : NwAt V => q.nw.hold (k.hold (c1 qo))
  replace c2 := fun q : NwAt V => q.nw.hold (k.hold (c2 qo))
  replace c3 := fun q : NwAt V => q.nw.hold (k.hold (c3 qo))
  replace c4 := fun q : NwAt V => q.nw.hold (k.hold (c4 qo))
  refine from_here ?_
  intro q
  refine wp_region_nw (by kernel_rfl) (by kernel_rfl) ?_
  repeat (go_big_quiet_step ((first | (go_at_call 19; exact nwAt_of (xConjugate_u _ _ _ _)) | (go_at_call 20; exact nwAt_of (yConjugate_u _ _ _ _)) | (go_at_call 21; exact nwAt_of (xNorm_u _ _ _ _)) | (go_at_call 22; exact nwAt_of (yNorm_u _ _ _ _)) | (go_at_call 23; exact nwAt_of (xInv_u _ _ _ _)) | (go_at_call 24; exact nwAt_of (yInv_u _ _ _ _)) | (go_at_call 25; exact nwAt_of (xScale_u _ _ _ _ _)) | (go_at_call 26; exact nwAt_of (yScale_u _ _ _ _ _)))))
  refine wpQuiet_nil ?_
  clear q
  rintro _ ⟨q, rfl⟩
  go_wp2
  go_ret
  exact ⟨rfl, by have hqn := q.nw; exact by (repeat (first | exact Nw.refl _ _ | assumption | refine Nw.drew ?_ | refine Nw.drewN ?_ _ | refine Nw.set ?_ (by first | omega | (simp; done) | (simp; omega)) _ | refine Nw.made (Nat.le_refl _) ?_ _ _ | refine Nw.next (Nat.le_refl _) ?_ (by assumption)))⟩
end Go.Proofs.Ytkpgejaamhkdnaa
