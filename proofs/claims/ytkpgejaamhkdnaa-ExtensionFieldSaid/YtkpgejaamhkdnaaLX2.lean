/- The walk of the statement on the laws of the field. -/
import Derived.Test.YtkpgejaamhkdnaaLX1
import Derived.Deep.DeepCutAuto
namespace Go.Proofs.Ytkpgejaamhkdnaa
open Go.RowKit Go.BigFrame Ext

section
variable (p a0 a1 b0 b1 c0 c1 : Int)
theorem g_add : eadd p (eadd p (a0, a1) (b0, b1)) (c0, c1) = eadd p (a0, a1) (eadd p (b0, b1) (c0, c1)) := by
  by_cases hk : known p = true
  · exact field_add hk _ _ _
  · have hk : known p = false := by simpa using hk
    rw [(unknown_all hk _ _ 0 0).1, (unknown_all hk _ _ 0 0).1]
theorem g_mul : emul p (emul p (a0, a1) (b0, b1)) (c0, c1) = emul p (a0, a1) (emul p (b0, b1) (c0, c1)) := by
  by_cases hk : known p = true
  · exact field_mul hk _ _ _
  · have hk : known p = false := by simpa using hk
    rw [(unknown_all hk _ _ 0 0).2.2.1, (unknown_all hk _ _ 0 0).2.2.1]
theorem g_mulc : emul p (a0, a1) (b0, b1) = emul p (b0, b1) (a0, a1) := by
  by_cases hk : known p = true
  · exact field_mulc hk _ _
  · have hk : known p = false := by simpa using hk
    rw [(unknown_all hk _ _ 0 0).2.2.1, (unknown_all hk _ _ 0 0).2.2.1]
theorem g_dist : emul p (a0, a1) (eadd p (b0, b1) (c0, c1)) = eadd p (emul p (a0, a1) (b0, b1)) (emul p (a0, a1) (c0, c1)) := by
  by_cases hk : known p = true
  · exact field_dist hk _ _ _
  · have hk : known p = false := by simpa using hk
    rw [(unknown_all hk _ _ 0 0).2.2.1, (unknown_all hk _ _ 0 0).1]
theorem g_sub : esub p (eadd p (a0, a1) (b0, b1)) (b0, b1) = eadd p (a0, a1) (0, 0) := by
  by_cases hk : known p = true
  · exact field_sub hk _ _
  · have hk : known p = false := by simpa using hk
    rw [(unknown_all hk _ _ 0 0).2.1, (unknown_all hk _ _ 0 0).1]
end

set_option maxRecDepth 100000 in
set_option maxHeartbeats 40000000 in
theorem law_xfield (P K a0 a1 b0 b1 g0 g1 : Int) [hP : U P] (hK : 0 ≤ K) (hK' : K ≤ 255) [ha : U a0] [hc : U a1] [hb : U b0] [hd : U b1] [he : U g0] [hf : U g1] (w : World) :
    Calls Try.prog 6 #[.agg #[.int .u64 P, .int .u8 K, .int .u64 a0, .int .u64 a1, .int .u64 b0, .int .u64 b1], .agg #[.int .u64 g0, .int .u64 g1]] w fun e w' => e = .returned (.bool true) ∧ Nw w.heap.size w w' := by
  have heq := eq_pair
  obtain ⟨p, hp⟩ : ∃ p, p = pr2 P K := ⟨_, rfl⟩
  have f1 := beq_true (congrArg Prod.fst (g_add p a0 a1 b0 b1 g0 g1))
  have f2 := beq_true (congrArg Prod.snd (g_add p a0 a1 b0 b1 g0 g1))
  have f3 : (m0 p (m0 p a0 a1 b0 b1) (m1 p a0 a1 b0 b1) g0 g1 == m0 p a0 a1 (m0 p b0 b1 g0 g1) (m1 p b0 b1 g0 g1)) = true := beq_true (congrArg Prod.fst (g_mul p a0 a1 b0 b1 g0 g1))
  have f4 : (m1 p (m0 p a0 a1 b0 b1) (m1 p a0 a1 b0 b1) g0 g1 == m1 p a0 a1 (m0 p b0 b1 g0 g1) (m1 p b0 b1 g0 g1)) = true := beq_true (congrArg Prod.snd (g_mul p a0 a1 b0 b1 g0 g1))
  have f5 : (m0 p a0 a1 b0 b1 == m0 p b0 b1 a0 a1) = true := beq_true (congrArg Prod.fst (g_mulc p a0 a1 b0 b1))
  have f6 : (m1 p a0 a1 b0 b1 == m1 p b0 b1 a0 a1) = true := beq_true (congrArg Prod.snd (g_mulc p a0 a1 b0 b1))
  have f7 : (m0 p a0 a1 (ad p b0 g0) (ad p b1 g1) == ad p (m0 p a0 a1 b0 b1) (m0 p a0 a1 g0 g1)) = true := beq_true (congrArg Prod.fst (g_dist p a0 a1 b0 b1 g0 g1))
  have f8 : (m1 p a0 a1 (ad p b0 g0) (ad p b1 g1) == ad p (m1 p a0 a1 b0 b1) (m1 p a0 a1 g0 g1)) = true := beq_true (congrArg Prod.snd (g_dist p a0 a1 b0 b1 g0 g1))
  have f9 := beq_true (congrArg Prod.fst (g_sub p a0 a1 b0 b1))
  have f10 := beq_true (congrArg Prod.snd (g_sub p a0 a1 b0 b1))
  dsimp only [eadd, esub] at f1 f2 f9 f10
  have hU : U p := by rw [hp]; infer_instance
  have HP := Lib.hid hp
  clear hp
  go_enter Try.func6, Try.ntmps6
  go_upto_region 1 with fail
  refine name_world ?_
  intro W hW
  have hnw : Nw w.heap.size w W := by rw [hW]; (repeat (first | exact Nw.refl _ _ | refine Nw.drew ?_ | refine Nw.drewN ?_ _ | refine Nw.made (Nat.le_refl _) ?_ _ _))
  have s0 : W.cell? ⟨w.heap.size, 0, none⟩ = some (.int .u64 P) := by rw [hW]; go_simp
  have c0 := fun q : NwAt W => q.nw.hold s0
  have s9 : W.cell? ⟨w.heap.size, 1, none⟩ = some (.int .u8 K) := by rw [hW]; go_simp
  have c9 := fun q : NwAt W => q.nw.hold s9
  have s1 : W.cell? ⟨w.heap.size, 2, none⟩ = some (.int .u64 a0) := by rw [hW]; go_simp
  have c1 := fun q : NwAt W => q.nw.hold s1
  have s2 : W.cell? ⟨w.heap.size, 3, none⟩ = some (.int .u64 a1) := by rw [hW]; go_simp
  have c2 := fun q : NwAt W => q.nw.hold s2
  have s3 : W.cell? ⟨w.heap.size, 4, none⟩ = some (.int .u64 b0) := by rw [hW]; go_simp
  have c3 := fun q : NwAt W => q.nw.hold s3
  have s4 : W.cell? ⟨w.heap.size, 5, none⟩ = some (.int .u64 b1) := by rw [hW]; go_simp
  have c4 := fun q : NwAt W => q.nw.hold s4
  have s5 : W.cell? ⟨w.heap.size + 1, 0, none⟩ = some (.int .u64 g0) := by rw [hW]; go_simp
  have c5 := fun q : NwAt W => q.nw.hold s5
  have s6 : W.cell? ⟨w.heap.size + 1, 1, none⟩ = some (.int .u64 g1) := by rw [hW]; go_simp
  have c6 := fun q : NwAt W => q.nw.hold s6
  clear hW
  refine from_here ?_
  intro q
  go_upto_region 4 with (first | (go_at_call 11; refine (nwAt_of (awake2_u _)).mono ?_; clear q; rintro _ _ ⟨rfl, q, rfl⟩) | (go_at_call 12; refine (nwAt_of (prime2_u _ _ _ _ _ _ hK hK' _)).mono ?_; rw [← HP.out]; clear q; rintro _ _ ⟨rfl, q, rfl⟩))
  refine name_world ?_
  rename NwAt W => qo
  have hnV := Nw.made (Nat.le_refl _) (Nw.next (Nat.le_refl _) hnw qo.nw) #[.int .u64 p] 29
  have k := Nw.made (Nat.le_refl _) (Nw.refl qo.out.heap.size qo.out) #[.int .u64 p] 29
  have hf : (qo.out.alloc (.cells #[.int .u64 p] 29)).cell? ⟨qo.out.heap.size, 0, none⟩ = some (.int .u64 p) := by go_simp
  intro V hV
  rw [← hV] at hnV k hf
  clear hV
  have cf := fun q : NwAt V => q.nw.hold hf
  replace c0 := fun q : NwAt V => q.nw.hold (k.hold (c0 qo))
  replace c1 := fun q : NwAt V => q.nw.hold (k.hold (c1 qo))
  replace c2 := fun q : NwAt V => q.nw.hold (k.hold (c2 qo))
  replace c3 := fun q : NwAt V => q.nw.hold (k.hold (c3 qo))
  replace c4 := fun q : NwAt V => q.nw.hold (k.hold (c4 qo))
  replace c5 := fun q : NwAt V => q.nw.hold (k.hold (c5 qo))
  replace c6 := fun q : NwAt V => q.nw.hold (k.hold (c6 qo))
  refine from_here ?_
  intro q
  have hz := World.block_lt_of_cell? _ _ (c1 q)
  dsimp only at hz
  go_cut [6, 7] (fun s6 s7 wx => ∃ (q : NwAt V) (B6 B7 : Nat), wx = q.out ∧ s6 = .pointer (some ⟨B6, 0, none⟩) ∧ s7 = .pointer (some ⟨B7, 0, none⟩) ∧ q.out.cell? ⟨B6, 0, none⟩ = some (.int .u64 a0) ∧ q.out.cell? ⟨B6, 1, none⟩ = some (.int .u64 a1) ∧ q.out.cell? ⟨B7, 0, none⟩ = some (.int .u64 b0) ∧ q.out.cell? ⟨B7, 1, none⟩ = some (.int .u64 b1))
  case first =>
    go_region
    all_goals
      go_wp2_with fail
      go_meet
      exact ⟨⟨_, by have hqn := q.nw; exact by (repeat (first | exact Nw.refl _ _ | assumption | refine Nw.drew ?_ | refine Nw.drewN ?_ _ | refine Nw.set ?_ (by first | omega | (simp; done) | (simp; omega)) _ | refine Nw.made (Nat.le_refl _) ?_ _ _ | refine Nw.next (Nat.le_refl _) ?_ (by assumption)))⟩, _, _, rfl, rfl, rfl, drew_hold (by go_simp), drew_hold (by go_simp), drew_hold (by go_simp), drew_hold (by go_simp)⟩
  case rest =>
    obtain ⟨q1, B6, B7, rfl, rfl, rfl, h1, h2, h3, h4⟩ := hcut
    clear hz q
    have hn1 : Nw w.heap.size w q1.out := Nw.next (by have := World.block_lt_of_cell? _ _ hf; have := World.block_lt_of_cell? _ _ (c1 q1); have := World.block_lt_of_cell? _ _ s1; have := hnV.b.size; omega) hnV q1.nw
    replace cf := fun q : NwAt q1.out => q.nw.hold (cf q1)
    replace c5 := fun q : NwAt q1.out => q.nw.hold (c5 q1)
    replace c6 := fun q : NwAt q1.out => q.nw.hold (c6 q1)
    have c1 := fun q : NwAt q1.out => q.nw.hold h1
    have c2 := fun q : NwAt q1.out => q.nw.hold h2
    have c3 := fun q : NwAt q1.out => q.nw.hold h3
    have c4 := fun q : NwAt q1.out => q.nw.hold h4
    go_upto_region 6 with fail
    refine from_here ?_
    intro q
    simp only [List.append_eq, List.cons_append, List.nil_append]
    refine wp_region_nw (by kernel_rfl) (lexB_of (by as_aux_lemma => kernel_rfl) ?_) ?_
    · intro k hk
      have hk' : k < 95 := Nat.lt_of_lt_of_le hk (Nat.le_of_ble_eq_true (by kernel_rfl))
      clear hk
      revert k
      have : ∀ {ops : Array Oper}, (∀ i, 0 ≤ i → i < 95 → stepOk ops i = true) → ∀ k, k < 95 → stepOk ops k = true := fun h k hk => h k (Nat.zero_le _) hk
      refine this ?_
      clear this
      refine steps_of (a := 0) (b := 10) (by as_aux_lemma => kernel_rfl) ?_
      refine steps_of (a := 10) (b := 20) (by as_aux_lemma => kernel_rfl) ?_
      refine steps_of (a := 20) (b := 30) (by as_aux_lemma => kernel_rfl) ?_
      refine steps_of (a := 30) (b := 40) (by as_aux_lemma => kernel_rfl) ?_
      refine steps_of (a := 40) (b := 50) (by as_aux_lemma => kernel_rfl) ?_
      refine steps_of (a := 50) (b := 60) (by as_aux_lemma => kernel_rfl) ?_
      refine steps_of (a := 60) (b := 70) (by as_aux_lemma => kernel_rfl) ?_
      refine steps_of (a := 70) (b := 80) (by as_aux_lemma => kernel_rfl) ?_
      refine steps_of (a := 80) (b := 90) (by as_aux_lemma => kernel_rfl) ?_
      refine steps_of (a := 90) (b := 95) (by as_aux_lemma => kernel_rfl) ?_
      exact fun i h1 h2 => absurd h2 (by omega)
    · repeat (go_big_quiet_step ((first | (go_at_call 13; exact nwAt_of (xAdd_u _ _ _ _ _ _)) | (go_at_call 17; exact nwAt_of (xMul_u _ _ _ _ _ _)) | (go_at_call 15; exact nwAt_of (xSub_u _ _ _ _ _ _)))))
      refine wpQuiet_nil ?_
      clear q
      rintro _ ⟨q, rfl⟩
      go_wp2
      go_ret
      exact ⟨rfl, by have hqn := q.nw; exact by (repeat (first | exact Nw.refl _ _ | assumption | refine Nw.drew ?_ | refine Nw.drewN ?_ _ | refine Nw.set ?_ (by first | omega | (simp; done) | (simp; omega)) _ | refine Nw.made (Nat.le_refl _) ?_ _ _ | refine Nw.next (Nat.le_refl _) ?_ (by assumption)))⟩
end Go.Proofs.Ytkpgejaamhkdnaa
