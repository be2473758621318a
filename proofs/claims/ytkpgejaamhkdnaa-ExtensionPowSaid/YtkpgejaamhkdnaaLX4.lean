/- The walk of the statement on powers: two powers are taken into two variables by one statement, whose order is open. -/
import Derived.Test.YtkpgejaamhkdnaaLX1
import Derived.Deep.DeepCutAuto
namespace Go.Proofs.Ytkpgejaamhkdnaa
open Go.RowKit Go.BigFrame Ext
theorem keep_new {X w2 : World} {u0 u1 : Value} {t : TypeId} (h : Nw (X.alloc (.cells #[u0, u1] t)).heap.size (X.alloc (.cells #[u0, u1] t)) w2) :
    w2.cell? ⟨X.heap.size, 0, none⟩ = some u0 ∧ w2.cell? ⟨X.heap.size, 1, none⟩ = some u1 ∧ w2.frozen? ⟨X.heap.size, 0, none⟩ = false ∧ w2.frozen? ⟨X.heap.size, 1, none⟩ = false ∧ X.heap.size < w2.heap.size :=
  ⟨h.hold (by go_simp), h.hold (by go_simp), h.holdf (by go_simp), h.holdf (by go_simp), by have := h.b.size; simp at this; omega⟩
theorem next_new {X w2 : World} {b : Nat} {u0 u1 : Value} (h : Nw X.heap.size X w2)
    (F : X.cell? ⟨b, 0, none⟩ = some u0 ∧ X.cell? ⟨b, 1, none⟩ = some u1 ∧ X.frozen? ⟨b, 0, none⟩ = false ∧ X.frozen? ⟨b, 1, none⟩ = false ∧ b < X.heap.size) :
    w2.cell? ⟨b, 0, none⟩ = some u0 ∧ w2.cell? ⟨b, 1, none⟩ = some u1 ∧ w2.frozen? ⟨b, 0, none⟩ = false ∧ w2.frozen? ⟨b, 1, none⟩ = false ∧ b < w2.heap.size :=
  ⟨h.hold F.1, h.hold F.2.1, h.holdf F.2.2.1, h.holdf F.2.2.2.1, Nat.lt_of_lt_of_le F.2.2.2.2 h.b.size⟩
theorem next_new1 {X w2 : World} {b : Nat} {u0 u1 : Value} {c : Array Value} {t : TypeId} (h : Nw (X.alloc (.cells c t)).heap.size (X.alloc (.cells c t)) w2)
    (F : X.cell? ⟨b, 0, none⟩ = some u0 ∧ X.cell? ⟨b, 1, none⟩ = some u1 ∧ X.frozen? ⟨b, 0, none⟩ = false ∧ X.frozen? ⟨b, 1, none⟩ = false ∧ b < X.heap.size) :
    w2.cell? ⟨b, 0, none⟩ = some u0 ∧ w2.cell? ⟨b, 1, none⟩ = some u1 ∧ w2.frozen? ⟨b, 0, none⟩ = false ∧ w2.frozen? ⟨b, 1, none⟩ = false ∧ b < w2.heap.size :=
  next_new (((Nw.refl _ _).made (Nat.le_refl _) c t).next (Nat.le_refl _) h) F
theorem keep_new2 {X w2 : World} {u0 u1 v0 v1 : Value} {t s : TypeId} (h : Nw ((X.alloc (.cells #[u0, u1] t)).alloc (.cells #[v0, v1] s)).heap.size ((X.alloc (.cells #[u0, u1] t)).alloc (.cells #[v0, v1] s)) w2) :
    (w2.cell? ⟨X.heap.size, 0, none⟩ = some u0 ∧ w2.cell? ⟨X.heap.size, 1, none⟩ = some u1 ∧ w2.frozen? ⟨X.heap.size, 0, none⟩ = false ∧ w2.frozen? ⟨X.heap.size, 1, none⟩ = false ∧ X.heap.size < w2.heap.size) ∧
    (w2.cell? ⟨X.heap.size + 1, 0, none⟩ = some v0 ∧ w2.cell? ⟨X.heap.size + 1, 1, none⟩ = some v1 ∧ w2.frozen? ⟨X.heap.size + 1, 0, none⟩ = false ∧ w2.frozen? ⟨X.heap.size + 1, 1, none⟩ = false ∧ X.heap.size + 1 < w2.heap.size) :=
  ⟨⟨h.hold (by go_simp), h.hold (by go_simp), h.holdf (by go_simp), h.holdf (by go_simp), by have := h.b.size; simp at this; omega⟩,
   ⟨h.hold (by go_simp), h.hold (by go_simp), h.holdf (by go_simp), h.holdf (by go_simp), by have := h.b.size; simp at this; omega⟩⟩

set_option maxRecDepth 100000 in
set_option maxHeartbeats 40000000 in
theorem law_xpow (P K a0 a1 b0 b1 m n : Int) [hP : U P] (hK : 0 ≤ K) (hK' : K ≤ 255) [ha : U a0] [hc : U a1] [hm : U m] [hn : U n] (w : World) :
    Calls Try.prog 5 #[.agg #[.int .u64 P, .int .u8 K, .int .u64 a0, .int .u64 a1, .int .u64 b0, .int .u64 b1], .int .u64 m, .int .u64 n] w fun e w' => e = .returned (.bool true) ∧ Nw w.heap.size w w' := by
  have hm0 := hm.lo
  have hm1 := hm.hi
  have hn0 := hn.lo
  have hn1 := hn.hi
  obtain ⟨p, hp⟩ : ∃ p, p = pr2 P K := ⟨_, rfl⟩
  have hU : U p := by rw [hp]; infer_instance
  have hs : emul p (epw p (a0, a1) m.toNat) (epw p (a0, a1) n.toNat) = epw p (a0, a1) (m + n).toNat := by
    rw [show (m + n).toNat = m.toNat + n.toNat by omega]
    by_cases hk : known p = true
    · exact (pow_sum hk _ _ _).symm
    · have hk : known p = false := by simpa using hk
      rw [(unknown_all hk _ _ 0 0).2.2.1, (unknown_all hk (a0, a1) (a0, a1) 0 _).2.2.2.2.2.2.2]
  have f1 : (p0 p a0 a1 (m + n).toNat == m0 p (p0 p a0 a1 m.toNat) (p1 p a0 a1 m.toNat) (p0 p a0 a1 n.toNat) (p1 p a0 a1 n.toNat)) = true := beq_true (congrArg Prod.fst hs).symm
  have f2 : (p1 p a0 a1 (m + n).toNat == m1 p (p0 p a0 a1 m.toNat) (p1 p a0 a1 m.toNat) (p0 p a0 a1 n.toNat) (p1 p a0 a1 n.toNat)) = true := beq_true (congrArg Prod.snd hs).symm
  clear hs
  have HP := Lib.hid hp
  clear hp
  have heq := eq_pair
  go_enter Try.func5, Try.ntmps5
  go_upto_region 1 with fail
  refine name_world ?_
  intro W hW
  have hnw : Nw w.heap.size w W := by rw [hW]; (repeat (first | exact Nw.refl _ _ | refine Nw.drew ?_ | refine Nw.drewN ?_ _ | refine Nw.made (Nat.le_refl _) ?_ _ _))
  have s0 : W.cell? ⟨w.heap.size, 0, none⟩ = some (.int .u64 P) := by rw [hW]; go_simp
  have c0 := fun q : NwAt W => q.nw.hold s0
  have s9 : W.cell? ⟨w.heap.size, 1, none⟩ = some (.int .u8 K) := by rw [hW]; go_simp
  have c9 := fun q : NwAt W => q.nw.hold s9
  have s1 : W.cell? ⟨w.heap.size, 2, none⟩ = some (.int .u64 a0) := by rw [hW]; go_simp
  have c1 := fun q : NwAt W => q.nw.hold s1
  have s2 : W.cell? ⟨w.heap.size, 3, none⟩ = some (.int .u64 a1) := by rw [hW]; go_simp
  have c2 := fun q : NwAt W => q.nw.hold s2
  have s3 : W.cell? ⟨w.heap.size, 4, none⟩ = some (.int .u64 b0) := by rw [hW]; go_simp
  have c3 := fun q : NwAt W => q.nw.hold s3
  have s4 : W.cell? ⟨w.heap.size, 5, none⟩ = some (.int .u64 b1) := by rw [hW]; go_simp
  have c4 := fun q : NwAt W => q.nw.hold s4
  have k1 := c1
  have k2 := c2
  clear hW
  refine from_here ?_
  intro q
  go_upto_region 5 with (first | (go_at_call 11; refine (nwAt_of (awake2_u _)).mono ?_; clear q; rintro _ _ ⟨rfl, q, rfl⟩) | (go_at_call 12; refine (nwAt_of (prime2_u _ _ _ _ _ _ hK hK' _)).mono ?_; rw [← HP.out]; clear q; rintro _ _ ⟨rfl, q, rfl⟩))
  refine name_world ?_
  rename NwAt W => qo
  have hnV := Nw.made (Nat.le_refl _) (Nw.next (Nat.le_refl _) hnw qo.nw) #[.int .u64 (p)] 29
  have k := Nw.made (Nat.le_refl _) (Nw.refl qo.out.heap.size qo.out) #[.int .u64 (p)] 29
  have hf : (qo.out.alloc (.cells #[.int .u64 (p)] 29)).cell? ⟨qo.out.heap.size, 0, none⟩ = some (.int .u64 (p)) := by go_simp
  intro V hV
  rw [← hV] at hnV k hf
  clear hV
  have cf := fun q : NwAt V => q.nw.hold hf
  replace c0 := fun q : NwAt V => q.nw.hold (k.hold (c0 qo))
  replace c1 := fun q : NwAt V => q.nw.hold (k.hold (c1 qo))
  replace c2 := fun q : NwAt V => q.nw.hold (k.hold (c2 qo))
  replace c3 := fun q : NwAt V => q.nw.hold (k.hold (c3 qo))
  replace c4 := fun q : NwAt V => q.nw.hold (k.hold (c4 qo))
  refine from_here ?_
  intro q
  have hz := World.block_lt_of_cell? _ _ (c1 q)
  dsimp only at hz
  have d0 := cf q
  have d1 := c1 q
  have d2 := c2 q
  go_cut [9, 10] (fun s9 s10 wx => ∃ (B6 B7 : Nat), Nw V.heap.size V wx ∧ s9 = .pointer (some ⟨B6, 0, none⟩) ∧ s10 = .pointer (some ⟨B7, 0, none⟩) ∧ wx.cell? ⟨B6, 0, none⟩ = some (.int .u64 (p0 p a0 a1 m.toNat)) ∧ wx.cell? ⟨B6, 1, none⟩ = some (.int .u64 (p1 p a0 a1 m.toNat)) ∧ wx.cell? ⟨B7, 0, none⟩ = some (.int .u64 (p0 p a0 a1 n.toNat)) ∧ wx.cell? ⟨B7, 1, none⟩ = some (.int .u64 (p1 p a0 a1 n.toNat)))
  case first =>
    have hz2 := q.nw.b.size
    have g0 := fun (w' : World) (h : Nw V.heap.size V w') => h.hold hf
    have g1 := fun (w' : World) (h : Nw V.heap.size V w') => h.hold (k.hold (k1 qo))
    have g2 := fun (w' : World) (h : Nw V.heap.size V w') => h.hold (k.hold (k2 qo))
    have hq := q.nw
    go_region_held3 (fun w' => Nw V.heap.size V w')
      (first | assumption | (repeat (first | assumption | exact Nw.refl _ _ | refine Nw.drew ?_ | refine Nw.drewN ?_ _ | refine Nw.set ?_ (by first | omega | (simp; done) | (simp; omega)) _ | refine Nw.made (Nat.le_refl _) ?_ _ _ | refine Nw.next (Nat.le_refl _) ?_ (by assumption))))
      (first | (go_at_call 27; refine (xPow_u _ _ _ _ _).mono ?_; rintro _ w2 ⟨rfl, hb2⟩; have hs2 := hb2.b.size; (try simp at hs2); (try (replace F := next_new hb2 F)); (try (replace F := next_new1 hb2 F)); (try (replace G := next_new hb2 G)); (try (have F := keep_new hb2; try simp only [World.size_drew] at F)); (try (have F := keep_new (Nw.next (Nat.le_refl _) ((Nw.refl _ _).drew) hb2))); (try (have FG := keep_new2 (Nw.next (Nat.le_refl _) ((Nw.refl _ _).drew) hb2); obtain ⟨F, G⟩ := FG)); (try (have FG := keep_new2 hb2; (try simp only [World.size_drew] at FG); obtain ⟨F, G⟩ := FG))))
    all_goals
      go_wp2_with fail
      go_meet
      exact ⟨_, _, by assumption, rfl, rfl, by go_simp, by go_simp, by go_simp, by go_simp⟩
  case rest =>
    rename World => wx
    obtain ⟨B6, B7, hn0, rfl, rfl, h1, h2, h3, h4⟩ := hcut
    obtain ⟨q1, rfl⟩ : ∃ q1 : NwAt V, wx = q1.out := ⟨⟨wx, hn0⟩, rfl⟩
    clear hz d0 d1 d2 q
    have hn1 : Nw w.heap.size w q1.out := Nw.next (by have := World.block_lt_of_cell? _ _ hf; have := World.block_lt_of_cell? _ _ s1; have := hnV.b.size; omega) hnV q1.nw
    replace cf := fun q : NwAt q1.out => q.nw.hold (cf q1)
    replace c1 := fun q : NwAt q1.out => q.nw.hold (c1 q1)
    replace c2 := fun q : NwAt q1.out => q.nw.hold (c2 q1)
    have c3 := fun q : NwAt q1.out => q.nw.hold h1
    have c4 := fun q : NwAt q1.out => q.nw.hold h2
    have c5 := fun q : NwAt q1.out => q.nw.hold h3
    have c6 := fun q : NwAt q1.out => q.nw.hold h4
    by_cases hov : m + n ≤ 18446744073709551615
    · have hw : IntKind.u64.wrap (m + n) = m + n := by rw [IntKind.wrap_u64]; omega
      have hl : ¬ (m + n < m) := by omega
      have hUs : U (m + n) := ⟨by omega, hov⟩
      go_upto_region 6 with fail
      refine from_here ?_
      intro q
      refine wp_region_nw (by kernel_rfl) (by kernel_rfl) ?_
      repeat (go_big_quiet_step ((first | (go_at_call 28; exact nwAt_of (yPow_u _ _ _ _ _)))))
      refine wpQuiet_nil ?_
      clear q
      rintro _ ⟨q, rfl⟩
      go_upto_region 8 with fail
      refine wp_region_nw (by kernel_rfl) (by kernel_rfl) ?_
      repeat (go_big_quiet_step ((first | (go_at_call 27; exact nwAt_of (xPow_u _ _ _ _ _)) | (go_at_call 17; exact nwAt_of (xMul_u _ _ _ _ _ _)))))
      refine wpQuiet_nil ?_
      clear q
      rintro _ ⟨q, rfl⟩
      go_wp2
      go_ret
      exact ⟨rfl, by have hqn := q.nw; exact by (repeat (first | exact Nw.refl _ _ | assumption | refine Nw.drew ?_ | refine Nw.drewN ?_ _ | refine Nw.set ?_ (by first | omega | (simp; done) | (simp; omega)) _ | refine Nw.made (Nat.le_refl _) ?_ _ _ | refine Nw.next (Nat.le_refl _) ?_ (by assumption)))⟩
    · have hw : IntKind.u64.wrap (m + n) = m + n - 18446744073709551616 := by rw [IntKind.wrap_u64]; omega
      have hl : m + n - 18446744073709551616 < m := by omega
      go_upto_region 6 with fail
      refine from_here ?_
      intro q
      refine wp_region_nw (by kernel_rfl) (by kernel_rfl) ?_
      repeat (go_big_quiet_step ((first | (go_at_call 28; exact nwAt_of (yPow_u _ _ _ _ _)))))
      refine wpQuiet_nil ?_
      clear q
      rintro _ ⟨q, rfl⟩
      go_upto_region 8 with fail
      refine wp_region_nw (by kernel_rfl) (by kernel_rfl) ?_
      repeat (go_big_quiet_step ((first | (go_at_call 27; exact nwAt_of (xPow_u _ _ _ _ _)) | (go_at_call 17; exact nwAt_of (xMul_u _ _ _ _ _ _)))))
      refine wpQuiet_nil ?_
      clear q
      rintro _ ⟨q, rfl⟩
      go_wp2
      go_ret
      exact ⟨rfl, by have hqn := q.nw; exact by (repeat (first | exact Nw.refl _ _ | assumption | refine Nw.drew ?_ | refine Nw.drewN ?_ _ | refine Nw.set ?_ (by first | omega | (simp; done) | (simp; omega)) _ | refine Nw.made (Nat.le_refl _) ?_ _ _ | refine Nw.next (Nat.le_refl _) ?_ (by assumption)))⟩
end Go.Proofs.Ytkpgejaamhkdnaa
