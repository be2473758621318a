/- The walks of the statements on the norm, the inverse, the power with the prime, and the unknown primes. -/
import Derived.Test.YtkpgejaamhkdnaaLX1
namespace Go.Proofs.Ytkpgejaamhkdnaa
open Go.RowKit Go.BigFrame Ext

set_option maxRecDepth 100000 in
set_option maxHeartbeats 40000000 in
theorem law_xnorm (P K a0 a1 b0 b1 : Int) (hK : 0 ≤ K) (hK' : K ≤ 255) [ha : U a0] [hc : U a1] [hb : U b0] [hd : U b1] (w : World) :
    Calls Try.prog 8 #[.agg #[.int .u64 P, .int .u8 K, .int .u64 a0, .int .u64 a1, .int .u64 b0, .int .u64 b1]] w fun e w' => e = .returned (.bool true) ∧ Nw w.heap.size w w' := by
  have heq := eq_pair
  obtain ⟨p, hp⟩ : ∃ p, p = prime K := ⟨_, rfl⟩
  have hk : known p = true := by rw [hp]; exact prime_known K
  have hpl := known_lo hk
  have hph := known_hi hk
  have hU := known_u hk
  have ha0 := ha.lo
  have ha1 := ha.hi
  have hc0 := hc.lo
  have hc1 := hc.hi
  have hz1 : ¬ p = 0 := by omega
  have hz2 : 0 < p := by omega
  have f1 : (nm p (m0 p a0 a1 b0 b1) (m1 p a0 a1 b0 b1) == ml p (nm p a0 a1) (nm p b0 b1)) = true := beq_true (norm_mul hk (a0, a1) (b0, b1))
  have f2 : (m0 p a0 a1 (rd p a0) (sb p 0 a1) == nm p a0 a1) = true := beq_true rfl
  have f3 : (m1 p a0 a1 (rd p a0) (sb p 0 a1) == 0) = true := beq_true (congrArg Prod.snd (norm_cj hk (a0, a1)))
  have f4 : (nm p a0 a1 == 0) = ((a0 % p == 0) && (a1 % p == 0)) := by
    have h : nm p a0 a1 = 0 ↔ (a0 % p = 0 ∧ a1 % p = 0) := norm_zero hk (a0, a1)
    rw [Bool.eq_iff_iff]; simp [h]
  have HP := Lib.hid hp
  clear hp hk
  cases z0 : (a0 % p == 0) <;> cases z1 : (a1 % p == 0)
  all_goals
    rw [z0, z1] at f4
    simp only [Bool.and_true, Bool.and_false] at f4
    go_enter Try.func8, Try.ntmps8
    go_upto_region 1 with fail
    refine name_world ?_
    intro W hW
    have hnw : Nw w.heap.size w W := by rw [hW]; (repeat (first | exact Nw.refl _ _ | refine Nw.drew ?_ | refine Nw.drewN ?_ _ | refine Nw.made (Nat.le_refl _) ?_ _ _))
    have s0 : W.cell? ⟨w.heap.size, 0, none⟩ = some (.int .u64 P) := by rw [hW]; go_simp
    have c0 := fun q : NwAt W => q.nw.hold s0
    have s9 : W.cell? ⟨w.heap.size, 1, none⟩ = some (.int .u8 K) := by rw [hW]; go_simp
    have c9 := fun q : NwAt W => q.nw.hold s9
    have s1 : W.cell? ⟨w.heap.size, 2, none⟩ = some (.int .u64 a0) := by rw [hW]; go_simp
    have c1 := fun q : NwAt W => q.nw.hold s1
    have s2 : W.cell? ⟨w.heap.size, 3, none⟩ = some (.int .u64 a1) := by rw [hW]; go_simp
    have c2 := fun q : NwAt W => q.nw.hold s2
    have s3 : W.cell? ⟨w.heap.size, 4, none⟩ = some (.int .u64 b0) := by rw [hW]; go_simp
    have c3 := fun q : NwAt W => q.nw.hold s3
    have s4 : W.cell? ⟨w.heap.size, 5, none⟩ = some (.int .u64 b1) := by rw [hW]; go_simp
    have c4 := fun q : NwAt W => q.nw.hold s4
    clear hW
    refine from_here ?_
    intro q
    go_upto_region 5 with (first | (go_at_call 11; refine (nwAt_of (awake2_u _)).mono ?_; clear q; rintro _ _ ⟨rfl, q, rfl⟩) | (go_at_call 29; refine (nwAt_of (rPrime_any _ hK hK' _)).mono ?_; rw [← HP.out]; clear q; rintro _ _ ⟨rfl, q, rfl⟩))
    refine name_world ?_
    rename NwAt W => qo
    have hnV := Nw.made (Nat.le_refl _) (Nw.next (Nat.le_refl _) hnw qo.nw) #[.int .u64 (p)] 29
    have k := Nw.made (Nat.le_refl _) (Nw.refl qo.out.heap.size qo.out) #[.int .u64 (p)] 29
    have hf : (qo.out.alloc (.cells #[.int .u64 (p)] 29)).cell? ⟨qo.out.heap.size, 0, none⟩ = some (.int .u64 (p)) := by go_simp
    intro V hV
    rw [← hV] at hnV k hf
    clear hV
    have cf := fun q : NwAt V => q.nw.hold hf
    replace c0 := fun q : NwAt V => q.nw.hold (k.hold (c0 qo))
    replace c1 := fun q : NwAt V => q.nw.hold (k.hold (c1 qo))
    replace c2 := fun q : NwAt V => q.nw.hold (k.hold (c2 qo))
    replace c3 := fun q : NwAt V => q.nw.hold (k.hold (c3 qo))
    replace c4 := fun q : NwAt V => q.nw.hold (k.hold (c4 qo))
    refine from_here ?_
    intro q
    refine wp_region_nw (by kernel_rfl) (by kernel_rfl) ?_
    repeat (go_big_quiet_step ((first | (go_at_call 21; exact nwAt_of (xNorm_u _ _ _ _)))))
    refine wpQuiet_nil ?_
    clear q
    rintro _ ⟨q, rfl⟩
    go_upto_region 7 with fail
    refine wp_region_nw (by kernel_rfl) (by kernel_rfl) ?_
    repeat (go_big_quiet_step ((first | (go_at_call 17; exact nwAt_of (xMul_u _ _ _ _ _ _)) | (go_at_call 21; exact nwAt_of (xNorm_u _ _ _ _)) | (go_at_call 30; exact nwAt_of (rMul_u _ _ _ _)) | (go_at_call 19; exact nwAt_of (xConjugate_u _ _ _ _)))))
    refine wpQuiet_nil ?_
    clear q
    rintro _ ⟨q, rfl⟩
    go_wp2
    go_ret
    exact ⟨rfl, by have hqn := q.nw; exact by (repeat (first | exact Nw.refl _ _ | assumption | refine Nw.drew ?_ | refine Nw.drewN ?_ _ | refine Nw.set ?_ (by first | omega | (simp; done) | (simp; omega)) _ | refine Nw.made (Nat.le_refl _) ?_ _ _ | refine Nw.next (Nat.le_refl _) ?_ (by assumption)))⟩

set_option maxRecDepth 100000 in
set_option maxHeartbeats 40000000 in
theorem law_xinverse (P K a0 a1 b0 b1 : Int) (hK : 0 ≤ K) (hK' : K ≤ 255) [ha : U a0] [hc : U a1] (w : World) :
    Calls Try.prog 7 #[.agg #[.int .u64 P, .int .u8 K, .int .u64 a0, .int .u64 a1, .int .u64 b0, .int .u64 b1]] w fun e w' => e = .returned (.bool true) ∧ Nw w.heap.size w w' := by
  have heq := eq_pair
  obtain ⟨p, hp⟩ : ∃ p, p = prime K := ⟨_, rfl⟩
  have hk : known p = true := by rw [hp]; exact prime_known K
  have hpl := known_lo hk
  have hph := known_hi hk
  have hU := known_u hk
  have ha0 := ha.lo
  have ha1 := ha.hi
  have hc0 := hc.lo
  have hc1 := hc.hi
  have hz1 : ¬ p = 0 := by omega
  have hz2 : 0 < p := by omega
  have hy : ((a0 % p == 0) && (a1 % p == 0)) = true → (i0 p a0 a1 == 0) = true ∧ (i1 p a0 a1 == 0) = true := fun h => by
    simp only [Bool.and_eq_true, beq_iff_eq] at h
    have e := inv_zero hk (a0, a1) h
    exact ⟨beq_true (congrArg Prod.fst e), beq_true (congrArg Prod.snd e)⟩
  have hn : ((a0 % p == 0) && (a1 % p == 0)) = false → ((m0 p a0 a1 (i0 p a0 a1) (i1 p a0 a1) == 1) = true ∧ (m1 p a0 a1 (i0 p a0 a1) (i1 p a0 a1) == 0) = true) ∧
      (i0 p (i0 p a0 a1) (i1 p a0 a1) == a0 % p) = true ∧ (i1 p (i0 p a0 a1) (i1 p a0 a1) == a1 % p) = true := fun h => by
    have h' : ¬ (a0 % p = 0 ∧ a1 % p = 0) := by
      intro h2
      rw [h2.1, h2.2] at h
      simp at h
    have e := inv_mul hk (a0, a1) h'
    have e2 := inv_inv hk (a0, a1) h'
    have r0 : rd p a0 = a0 % p := by rw [rd, if_pos hk]
    have r1 : rd p a1 = a1 % p := by rw [rd, if_pos hk]
    exact ⟨⟨beq_true (congrArg Prod.fst e), beq_true (congrArg Prod.snd e)⟩, beq_true (by rw [← r0]; exact congrArg Prod.fst e2), beq_true (by rw [← r1]; exact congrArg Prod.snd e2)⟩
  have HP := Lib.hid hp
  clear hp hk
  cases z0 : (a0 % p == 0) <;> cases z1 : (a1 % p == 0)
  all_goals
    rw [z0, z1] at hy hn
    simp only [Bool.and_true, Bool.and_false, forall_const, reduceCtorEq, false_implies] at hy hn
    go_enter Try.func7, Try.ntmps7
    go_upto_region 1 with fail
    refine name_world ?_
    intro W hW
    have hnw : Nw w.heap.size w W := by rw [hW]; (repeat (first | exact Nw.refl _ _ | refine Nw.drew ?_ | refine Nw.drewN ?_ _ | refine Nw.made (Nat.le_refl _) ?_ _ _))
    have s0 : W.cell? ⟨w.heap.size, 0, none⟩ = some (.int .u64 P) := by rw [hW]; go_simp
    have c0 := fun q : NwAt W => q.nw.hold s0
    have s9 : W.cell? ⟨w.heap.size, 1, none⟩ = some (.int .u8 K) := by rw [hW]; go_simp
    have c9 := fun q : NwAt W => q.nw.hold s9
    have s1 : W.cell? ⟨w.heap.size, 2, none⟩ = some (.int .u64 a0) := by rw [hW]; go_simp
    have c1 := fun q : NwAt W => q.nw.hold s1
    have s2 : W.cell? ⟨w.heap.size, 3, none⟩ = some (.int .u64 a1) := by rw [hW]; go_simp
    have c2 := fun q : NwAt W => q.nw.hold s2
    have s3 : W.cell? ⟨w.heap.size, 4, none⟩ = some (.int .u64 b0) := by rw [hW]; go_simp
    have c3 := fun q : NwAt W => q.nw.hold s3
    have s4 : W.cell? ⟨w.heap.size, 5, none⟩ = some (.int .u64 b1) := by rw [hW]; go_simp
    have c4 := fun q : NwAt W => q.nw.hold s4
    clear hW
    refine from_here ?_
    intro q
    go_upto_region 5 with (first | (go_at_call 11; refine (nwAt_of (awake2_u _)).mono ?_; clear q; rintro _ _ ⟨rfl, q, rfl⟩) | (go_at_call 29; refine (nwAt_of (rPrime_any _ hK hK' _)).mono ?_; rw [← HP.out]; clear q; rintro _ _ ⟨rfl, q, rfl⟩))
    refine name_world ?_
    rename NwAt W => qo
    have hnV := Nw.made (Nat.le_refl _) (Nw.next (Nat.le_refl _) hnw qo.nw) #[.int .u64 (p)] 29
    have k := Nw.made (Nat.le_refl _) (Nw.refl qo.out.heap.size qo.out) #[.int .u64 (p)] 29
    have hf : (qo.out.alloc (.cells #[.int .u64 (p)] 29)).cell? ⟨qo.out.heap.size, 0, none⟩ = some (.int .u64 (p)) := by go_simp
    intro V hV
    rw [← hV] at hnV k hf
    clear hV
    have cf := fun q : NwAt V => q.nw.hold hf
    replace c0 := fun q : NwAt V => q.nw.hold (k.hold (c0 qo))
    replace c1 := fun q : NwAt V => q.nw.hold (k.hold (c1 qo))
    replace c2 := fun q : NwAt V => q.nw.hold (k.hold (c2 qo))
    replace c3 := fun q : NwAt V => q.nw.hold (k.hold (c3 qo))
    replace c4 := fun q : NwAt V => q.nw.hold (k.hold (c4 qo))
    refine from_here ?_
    intro q
    go_upto_region 6 with (first | (go_at_call 23; refine (nwAt_of (xInv_u _ _ _ _)).mono ?_; clear q; rintro _ _ ⟨rfl, q, rfl⟩))
    refine name_world ?_
    rename NwAt V => qv
    have hnV2 := Nw.made (Nat.le_refl _) (Nw.next (Nat.le_refl _) hnV qv.nw) #[Value.int IntKind.u64 (i0 p a0 a1), Value.int IntKind.u64 (i1 p a0 a1)] 23
    have kV := Nw.made (Nat.le_refl _) (Nw.refl qv.out.heap.size qv.out) #[Value.int IntKind.u64 (i0 p a0 a1), Value.int IntKind.u64 (i1 p a0 a1)] 23
    have hg0 : (qv.out.alloc (.cells #[Value.int IntKind.u64 (i0 p a0 a1), Value.int IntKind.u64 (i1 p a0 a1)] 23)).cell? ⟨qv.out.heap.size, 0, none⟩ = some (.int .u64 (i0 p a0 a1)) := by go_simp
    have hg1 : (qv.out.alloc (.cells #[Value.int IntKind.u64 (i0 p a0 a1), Value.int IntKind.u64 (i1 p a0 a1)] 23)).cell? ⟨qv.out.heap.size, 1, none⟩ = some (.int .u64 (i1 p a0 a1)) := by go_simp
    intro V2 hV2
    rw [← hV2] at hnV2 kV hg0 hg1
    clear hV2
    have g0 := fun q : NwAt V2 => q.nw.hold hg0
    have g1 := fun q : NwAt V2 => q.nw.hold hg1
    replace cf := fun q : NwAt V2 => q.nw.hold (kV.hold (cf qv))
    replace c1 := fun q : NwAt V2 => q.nw.hold (kV.hold (c1 qv))
    replace c2 := fun q : NwAt V2 => q.nw.hold (kV.hold (c2 qv))
    refine from_here ?_
    intro q
    first
    | go_upto_region 8 with fail
      refine wp_region_nw (by kernel_rfl) (by kernel_rfl) ?_
      repeat (go_big_quiet_step ((first | (go_at_call 17; exact nwAt_of (xMul_u _ _ _ _ _ _)) | (go_at_call 23; exact nwAt_of (xInv_u _ _ _ _)))))
      refine wpQuiet_nil ?_
      clear q
      rintro _ ⟨q, rfl⟩
      go_wp2
      go_ret
      exact ⟨rfl, by have hqn := q.nw; exact by (repeat (first | exact Nw.refl _ _ | assumption | refine Nw.drew ?_ | refine Nw.drewN ?_ _ | refine Nw.set ?_ (by first | omega | (simp; done) | (simp; omega)) _ | refine Nw.made (Nat.le_refl _) ?_ _ _ | refine Nw.next (Nat.le_refl _) ?_ (by assumption)))⟩
    | skip
      go_wp2
      go_ret
      exact ⟨rfl, by have hqn := q.nw; exact by (repeat (first | exact Nw.refl _ _ | assumption | refine Nw.drew ?_ | refine Nw.drewN ?_ _ | refine Nw.set ?_ (by first | omega | (simp; done) | (simp; omega)) _ | refine Nw.made (Nat.le_refl _) ?_ _ _ | refine Nw.next (Nat.le_refl _) ?_ (by assumption)))⟩

set_option maxRecDepth 100000 in
set_option maxHeartbeats 40000000 in
theorem law_xfrobenius (P K a0 a1 b0 b1 : Int) (hK : 0 ≤ K) (hK' : K ≤ 255) [ha : U a0] [hc : U a1] (w : World) :
    Calls Try.prog 9 #[.agg #[.int .u64 P, .int .u8 K, .int .u64 a0, .int .u64 a1, .int .u64 b0, .int .u64 b1]] w fun e w' => e = .returned (.bool true) ∧ Nw w.heap.size w w' := by
  have heq := eq_pair
  obtain ⟨p, hp⟩ : ∃ p, p = prime K := ⟨_, rfl⟩
  have hk : known p = true := by rw [hp]; exact prime_known K
  have hpl := known_lo hk
  have hph := known_hi hk
  have hU := known_u hk
  have ha0 := ha.lo
  have ha1 := ha.hi
  have hc0 := hc.lo
  have hc1 := hc.hi
  have hz1 : ¬ p = 0 := by omega
  have hz2 : 0 < p := by omega
  have fr : epw p (a0, a1) p.toNat = ecj p (a0, a1) := pow_frobenius hk _
  have f1 : p0 p a0 a1 p.toNat = rd p a0 := congrArg Prod.fst fr
  have f2 : p1 p a0 a1 p.toNat = sb p 0 a1 := congrArg Prod.snd fr
  have r0 : rd p a0 = a0 % p := by rw [rd, if_pos hk]
  have f3 : (sb p 0 a1 == a1 % p) = (a1 % p == 0) := by
    have h := cj_same hk (a0, a1)
    have r1 : rd p a1 = a1 % p := by rw [rd, if_pos hk]
    rw [Bool.eq_iff_iff, beq_iff_eq, beq_iff_eq, ← r1]
    rw [r1]
    constructor
    · intro e
      refine h.1 ?_
      exact Prod.ext rfl (by rw [← r1] at e; exact e)
    · intro e
      rw [← r1]
      exact congrArg Prod.snd (h.2 e)
  have F := Lib.hid (And.intro f1 f2)
  have f4 : (rd p a0 == a0 % p) = true := beq_true r0
  have HP := Lib.hid hp
  clear hp hk f1 f2 r0 fr
  cases z1 : (a1 % p == 0)
  all_goals
    rw [z1] at f3
    go_enter Try.func9, Try.ntmps9
    go_upto_region 1 with fail
    refine name_world ?_
    intro W hW
    have hnw : Nw w.heap.size w W := by rw [hW]; (repeat (first | exact Nw.refl _ _ | refine Nw.drew ?_ | refine Nw.drewN ?_ _ | refine Nw.made (Nat.le_refl _) ?_ _ _))
    have s0 : W.cell? ⟨w.heap.size, 0, none⟩ = some (.int .u64 P) := by rw [hW]; go_simp
    have c0 := fun q : NwAt W => q.nw.hold s0
    have s9 : W.cell? ⟨w.heap.size, 1, none⟩ = some (.int .u8 K) := by rw [hW]; go_simp
    have c9 := fun q : NwAt W => q.nw.hold s9
    have s1 : W.cell? ⟨w.heap.size, 2, none⟩ = some (.int .u64 a0) := by rw [hW]; go_simp
    have c1 := fun q : NwAt W => q.nw.hold s1
    have s2 : W.cell? ⟨w.heap.size, 3, none⟩ = some (.int .u64 a1) := by rw [hW]; go_simp
    have c2 := fun q : NwAt W => q.nw.hold s2
    have s3 : W.cell? ⟨w.heap.size, 4, none⟩ = some (.int .u64 b0) := by rw [hW]; go_simp
    have c3 := fun q : NwAt W => q.nw.hold s3
    have s4 : W.cell? ⟨w.heap.size, 5, none⟩ = some (.int .u64 b1) := by rw [hW]; go_simp
    have c4 := fun q : NwAt W => q.nw.hold s4
    clear hW
    refine from_here ?_
    intro q
    go_upto_region 5 with (first | (go_at_call 11; refine (nwAt_of (awake2_u _)).mono ?_; clear q; rintro _ _ ⟨rfl, q, rfl⟩) | (go_at_call 29; refine (nwAt_of (rPrime_any _ hK hK' _)).mono ?_; rw [← HP.out]; clear q; rintro _ _ ⟨rfl, q, rfl⟩))
    refine name_world ?_
    rename NwAt W => qo
    have hnV := Nw.made (Nat.le_refl _) (Nw.next (Nat.le_refl _) hnw qo.nw) #[.int .u64 (p)] 29
    have k := Nw.made (Nat.le_refl _) (Nw.refl qo.out.heap.size qo.out) #[.int .u64 (p)] 29
    have hf : (qo.out.alloc (.cells #[.int .u64 (p)] 29)).cell? ⟨qo.out.heap.size, 0, none⟩ = some (.int .u64 (p)) := by go_simp
    intro V hV
    rw [← hV] at hnV k hf
    clear hV
    have cf := fun q : NwAt V => q.nw.hold hf
    replace c0 := fun q : NwAt V => q.nw.hold (k.hold (c0 qo))
    replace c1 := fun q : NwAt V => q.nw.hold (k.hold (c1 qo))
    replace c2 := fun q : NwAt V => q.nw.hold (k.hold (c2 qo))
    replace c3 := fun q : NwAt V => q.nw.hold (k.hold (c3 qo))
    replace c4 := fun q : NwAt V => q.nw.hold (k.hold (c4 qo))
    refine from_here ?_
    intro q
    go_upto_region 6 with (first | (go_at_call 27; refine (nwAt_of (xPow_u _ _ _ _ _)).mono ?_; rw [F.out.1, F.out.2]; clear q; rintro _ _ ⟨rfl, q, rfl⟩))
    refine name_world ?_
    rename NwAt V => qv
    have hnV2 := Nw.made (Nat.le_refl _) (Nw.next (Nat.le_refl _) hnV qv.nw) #[Value.int IntKind.u64 (rd p a0), Value.int IntKind.u64 (sb p 0 a1)] 23
    have kV := Nw.made (Nat.le_refl _) (Nw.refl qv.out.heap.size qv.out) #[Value.int IntKind.u64 (rd p a0), Value.int IntKind.u64 (sb p 0 a1)] 23
    have hg0 : (qv.out.alloc (.cells #[Value.int IntKind.u64 (rd p a0), Value.int IntKind.u64 (sb p 0 a1)] 23)).cell? ⟨qv.out.heap.size, 0, none⟩ = some (.int .u64 (rd p a0)) := by go_simp
    have hg1 : (qv.out.alloc (.cells #[Value.int IntKind.u64 (rd p a0), Value.int IntKind.u64 (sb p 0 a1)] 23)).cell? ⟨qv.out.heap.size, 1, none⟩ = some (.int .u64 (sb p 0 a1)) := by go_simp
    intro V2 hV2
    rw [← hV2] at hnV2 kV hg0 hg1
    clear hV2
    have g0 := fun q : NwAt V2 => q.nw.hold hg0
    have g1 := fun q : NwAt V2 => q.nw.hold hg1
    replace cf := fun q : NwAt V2 => q.nw.hold (kV.hold (cf qv))
    replace c1 := fun q : NwAt V2 => q.nw.hold (kV.hold (c1 qv))
    replace c2 := fun q : NwAt V2 => q.nw.hold (kV.hold (c2 qv))
    refine from_here ?_
    intro q
    refine wp_region_nw (by kernel_rfl) (by kernel_rfl) ?_
    repeat (go_big_quiet_step ((first | fail)))
    refine wpQuiet_nil ?_
    clear q
    rintro _ ⟨q, rfl⟩
    go_upto_region 7 with fail
    refine wp_region_nw (by kernel_rfl) (by kernel_rfl) ?_
    repeat (go_big_quiet_step ((first | (go_at_call 19; exact nwAt_of (xConjugate_u _ _ _ _)))))
    refine wpQuiet_nil ?_
    clear q
    rintro _ ⟨q, rfl⟩
    go_wp2
    go_ret
    exact ⟨rfl, by have hqn := q.nw; exact by (repeat (first | exact Nw.refl _ _ | assumption | refine Nw.drew ?_ | refine Nw.drewN ?_ _ | refine Nw.set ?_ (by first | omega | (simp; done) | (simp; omega)) _ | refine Nw.made (Nat.le_refl _) ?_ _ _ | refine Nw.next (Nat.le_refl _) ?_ (by assumption)))⟩

set_option maxRecDepth 100000 in
set_option maxHeartbeats 40000000 in
theorem law_xunknown (P K a0 a1 b0 b1 n : Int) [hP : U P] [ha : U a0] [hc : U a1] [hb : U b0] [hd : U b1] [hn : U n] (w : World) :
    Calls Try.prog 10 #[.agg #[.int .u64 P, .int .u8 K, .int .u64 a0, .int .u64 a1, .int .u64 b0, .int .u64 b1], .int .u64 n] w fun e w' => e = .returned (.bool true) ∧ Nw w.heap.size w w' := by
  have heq := eq_pair
  by_cases hk : known P = true
  · have HK := Lib.hid hk
    clear hk
    go_enter Try.func10, Try.ntmps10
    go_upto_region 1 with fail
    refine name_world ?_
    intro W hW
    have hnw : Nw w.heap.size w W := by rw [hW]; (repeat (first | exact Nw.refl _ _ | refine Nw.drew ?_ | refine Nw.drewN ?_ _ | refine Nw.made (Nat.le_refl _) ?_ _ _))
    have s0 : W.cell? ⟨w.heap.size, 0, none⟩ = some (.int .u64 P) := by rw [hW]; go_simp
    have c0 := fun q : NwAt W => q.nw.hold s0
    have s9 : W.cell? ⟨w.heap.size, 1, none⟩ = some (.int .u8 K) := by rw [hW]; go_simp
    have c9 := fun q : NwAt W => q.nw.hold s9
    have s1 : W.cell? ⟨w.heap.size, 2, none⟩ = some (.int .u64 a0) := by rw [hW]; go_simp
    have c1 := fun q : NwAt W => q.nw.hold s1
    have s2 : W.cell? ⟨w.heap.size, 3, none⟩ = some (.int .u64 a1) := by rw [hW]; go_simp
    have c2 := fun q : NwAt W => q.nw.hold s2
    have s3 : W.cell? ⟨w.heap.size, 4, none⟩ = some (.int .u64 b0) := by rw [hW]; go_simp
    have c3 := fun q : NwAt W => q.nw.hold s3
    have s4 : W.cell? ⟨w.heap.size, 5, none⟩ = some (.int .u64 b1) := by rw [hW]; go_simp
    have c4 := fun q : NwAt W => q.nw.hold s4
    clear hW
    refine from_here ?_
    intro q
    go_wp2_with (first | (go_at_call 11; refine (nwAt_of (awake2_u _)).mono ?_; clear q; rintro _ _ ⟨rfl, q, rfl⟩) | (go_at_call 31; refine (nwAt_of (rValid_u _ _)).mono ?_; rw [HK.out]; clear q; rintro _ _ ⟨rfl, q, rfl⟩))
    go_ret
    exact ⟨rfl, by have hqn := q.nw; exact by (repeat (first | exact Nw.refl _ _ | assumption | refine Nw.drew ?_ | refine Nw.drewN ?_ _ | refine Nw.set ?_ (by first | omega | (simp; done) | (simp; omega)) _ | refine Nw.made (Nat.le_refl _) ?_ _ _ | refine Nw.next (Nat.le_refl _) ?_ (by assumption)))⟩
  · have hk : known P = false := by simpa using hk
    have u := unknown_all hk (a0, a1) (b0, b1) n n.toNat
    obtain ⟨u1, u2, u3, u4, u5, u6, u7, u8⟩ := u
    have f1 : (ad P a0 b0 == 0) = true := beq_true (congrArg Prod.fst u1)
    have f2 : (ad P a1 b1 == 0) = true := beq_true (congrArg Prod.snd u1)
    have f3 : (sb P a0 b0 == 0) = true := beq_true (congrArg Prod.fst u2)
    have f4 : (sb P a1 b1 == 0) = true := beq_true (congrArg Prod.snd u2)
    have f5 : (m0 P a0 a1 b0 b1 == 0) = true := beq_true (congrArg Prod.fst u3)
    have f6 : (m1 P a0 a1 b0 b1 == 0) = true := beq_true (congrArg Prod.snd u3)
    have f7 : (rd P a0 == 0) = true := beq_true (congrArg Prod.fst u4)
    have f8 : (sb P 0 a1 == 0) = true := beq_true (congrArg Prod.snd u4)
    have f9 : (nm P a0 a1 == 0) = true := beq_true u5
    have f10 : (ml P a0 n == 0) = true := beq_true (congrArg Prod.fst u6)
    have f11 : (ml P a1 n == 0) = true := beq_true (congrArg Prod.snd u6)
    have f12 : (i0 P a0 a1 == 0) = true := beq_true (congrArg Prod.fst u7)
    have f13 : (i1 P a0 a1 == 0) = true := beq_true (congrArg Prod.snd u7)
    have f14 : (p0 P a0 a1 n.toNat == 0) = true := beq_true (congrArg Prod.fst u8)
    have f15 : (p1 P a0 a1 n.toNat == 0) = true := beq_true (congrArg Prod.snd u8)
    have HK := Lib.hid hk
    clear hk u1 u2 u3 u4 u5 u6 u7 u8
    go_enter Try.func10, Try.ntmps10
    go_upto_region 1 with fail
    refine name_world ?_
    intro W hW
    have hnw : Nw w.heap.size w W := by rw [hW]; (repeat (first | exact Nw.refl _ _ | refine Nw.drew ?_ | refine Nw.drewN ?_ _ | refine Nw.made (Nat.le_refl _) ?_ _ _))
    have s0 : W.cell? ⟨w.heap.size, 0, none⟩ = some (.int .u64 P) := by rw [hW]; go_simp
    have c0 := fun q : NwAt W => q.nw.hold s0
    have s9 : W.cell? ⟨w.heap.size, 1, none⟩ = some (.int .u8 K) := by rw [hW]; go_simp
    have c9 := fun q : NwAt W => q.nw.hold s9
    have s1 : W.cell? ⟨w.heap.size, 2, none⟩ = some (.int .u64 a0) := by rw [hW]; go_simp
    have c1 := fun q : NwAt W => q.nw.hold s1
    have s2 : W.cell? ⟨w.heap.size, 3, none⟩ = some (.int .u64 a1) := by rw [hW]; go_simp
    have c2 := fun q : NwAt W => q.nw.hold s2
    have s3 : W.cell? ⟨w.heap.size, 4, none⟩ = some (.int .u64 b0) := by rw [hW]; go_simp
    have c3 := fun q : NwAt W => q.nw.hold s3
    have s4 : W.cell? ⟨w.heap.size, 5, none⟩ = some (.int .u64 b1) := by rw [hW]; go_simp
    have c4 := fun q : NwAt W => q.nw.hold s4
    clear hW
    refine from_here ?_
    intro q
    go_upto_region 5 with (first | (go_at_call 11; refine (nwAt_of (awake2_u _)).mono ?_; clear q; rintro _ _ ⟨rfl, q, rfl⟩) | (go_at_call 31; refine (nwAt_of (rValid_u _ _)).mono ?_; rw [HK.out]; clear q; rintro _ _ ⟨rfl, q, rfl⟩))
    go_upto_region 6 with fail
    refine name_world ?_
    rename NwAt W => qo
    have hnV := Nw.made (Nat.le_refl _) (Nw.made (Nat.le_refl _) (Nw.next (Nat.le_refl _) hnw qo.nw) #[.int .u64 P] 29) #[.int .u64 0, .int .u64 0] 23
    have k := Nw.made (Nat.le_refl _) (Nw.made (Nat.le_refl _) (Nw.refl qo.out.heap.size qo.out) #[.int .u64 P] 29) #[.int .u64 0, .int .u64 0] 23
    have hf : ((qo.out.alloc (.cells #[.int .u64 P] 29)).alloc (.cells #[.int .u64 0, .int .u64 0] 23)).cell? ⟨qo.out.heap.size, 0, none⟩ = some (.int .u64 P) := by go_simp
    have hf0 : ((qo.out.alloc (.cells #[.int .u64 P] 29)).alloc (.cells #[.int .u64 0, .int .u64 0] 23)).cell? ⟨qo.out.heap.size + 1, 0, none⟩ = some (.int .u64 0) := by go_simp
    have hf1 : ((qo.out.alloc (.cells #[.int .u64 P] 29)).alloc (.cells #[.int .u64 0, .int .u64 0] 23)).cell? ⟨qo.out.heap.size + 1, 1, none⟩ = some (.int .u64 0) := by go_simp
    intro V hV
    rw [← hV] at hnV k hf hf0 hf1
    clear hV
    have cf := fun q : NwAt V => q.nw.hold hf
    have cf0 := fun q : NwAt V => q.nw.hold hf0
    have cf1 := fun q : NwAt V => q.nw.hold hf1
    replace c0 := fun q : NwAt V => q.nw.hold (k.hold (c0 qo))
    replace c1 := fun q : NwAt V => q.nw.hold (k.hold (c1 qo))
    replace c2 := fun q : NwAt V => q.nw.hold (k.hold (c2 qo))
    replace c3 := fun q : NwAt V => q.nw.hold (k.hold (c3 qo))
    replace c4 := fun q : NwAt V => q.nw.hold (k.hold (c4 qo))
    refine from_here ?_
    intro q
    simp only [List.append_eq, List.cons_append, List.nil_append]
    refine wp_region_nw (by kernel_rfl) (by kernel_rfl) ?_
    repeat (go_big_quiet_step ((first | (go_at_call 13; exact nwAt_of (xAdd_u _ _ _ _ _ _)) | (go_at_call 15; exact nwAt_of (xSub_u _ _ _ _ _ _)) | (go_at_call 17; exact nwAt_of (xMul_u _ _ _ _ _ _)) | (go_at_call 23; exact nwAt_of (xInv_u _ _ _ _)) | (go_at_call 19; exact nwAt_of (xConjugate_u _ _ _ _)) | (go_at_call 21; exact nwAt_of (xNorm_u _ _ _ _)) | (go_at_call 27; exact nwAt_of (xPow_u _ _ _ _ _)) | (go_at_call 25; exact nwAt_of (xScale_u _ _ _ _ _)))))
    refine wpQuiet_nil ?_
    clear q
    rintro _ ⟨q, rfl⟩
    go_wp2
    go_ret
    exact ⟨rfl, by have hqn := q.nw; exact by (repeat (first | exact Nw.refl _ _ | assumption | refine Nw.drew ?_ | refine Nw.drewN ?_ _ | refine Nw.set ?_ (by first | omega | (simp; done) | (simp; omega)) _ | refine Nw.made (Nat.le_refl _) ?_ _ _ | refine Nw.next (Nat.le_refl _) ?_ (by assumption)))⟩
end Go.Proofs.Ytkpgejaamhkdnaa
