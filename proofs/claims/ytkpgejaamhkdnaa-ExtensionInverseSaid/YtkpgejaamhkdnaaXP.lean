/- The walks of the powers. -/
import Derived.Test.YtkpgejaamhkdnaaXB
import Derived.Deep.CutBlock
namespace Go.Proofs.Ytkpgejaamhkdnaa
open Go.RowKit Go.BigFrame Ext

theorem pE_sq (g : Int) (a : E) (n : Nat) : pE g (mE g a a) n = pE g a (n + n) := by
  induction n with
  | zero => rfl
  | succ n ih =>
    have e : n + 1 + (n + 1) = n + n + 1 + 1 := by omega
    rw [e]
    show mE g (pE g (mE g a a) n) (mE g a a) = mE g (mE g (pE g a (n + n)) a) a
    rw [ih, mE_assoc]
theorem epw_al {p : Int} (hk : known p = true) (a : E) (n : Nat) : cE p (epw p a n) (pE (gen p) a n) := ered_al hk _
/-- One round of the power: the square, and the factor for an odd exponent. -/
theorem round_odd (p : Int) (r s : E) (n : Nat) (h : n % 2 = 1) : emul p (emul p r s) (epw p (emul p s s) (n / 2)) = emul p r (epw p s n) := by
  by_cases hk : known p = true
  · refine eq_of_cE (emul_rd hk _ _) (emul_rd hk _ _) ?_
    refine (emul_al hk _ _).trans (cE.trans ?_ (emul_al hk _ _).symm)
    refine ((emul_al hk r s).mul ((epw_al hk _ _).trans ((emul_al hk s s).pow _))).trans ?_
    refine cE.trans ?_ ((cE.refl p r).mul (epw_al hk s n).symm)
    rw [pE_sq, show n / 2 + n / 2 = n - 1 by omega, mE_assoc]
    have e : pE (gen p) s n = mE (gen p) (pE (gen p) s (n - 1)) s := by
      obtain ⟨m, rfl⟩ : ∃ m, n = m + 1 := ⟨n - 1, by omega⟩
      rfl
    rw [e, mE_comm (gen p) s]
    exact cE.refl _ _
  · have hk : known p = false := by simpa using hk
    rw [(unknown_all hk _ _ 0 0).2.2.1, (unknown_all hk _ _ 0 0).2.2.1]
theorem round_even (p : Int) (r s : E) (n : Nat) (h : n % 2 = 0) : emul p r (epw p (emul p s s) (n / 2)) = emul p r (epw p s n) := by
  by_cases hk : known p = true
  · refine eq_of_cE (emul_rd hk _ _) (emul_rd hk _ _) ?_
    refine (emul_al hk _ _).trans (cE.trans ?_ (emul_al hk _ _).symm)
    refine ((cE.refl p r).mul ((epw_al hk _ _).trans ((emul_al hk s s).pow _))).trans ?_
    refine cE.trans ?_ ((cE.refl p r).mul (epw_al hk s n).symm)
    rw [pE_sq, show n / 2 + n / 2 = n by omega]
    exact cE.refl _ _
  · have hk : known p = false := by simpa using hk
    rw [(unknown_all hk _ _ 0 0).2.2.1, (unknown_all hk _ _ 0 0).2.2.1]
theorem pow_none (p : Int) (a : E) : epw p a 0 = (rd p 1, 0) := by
  by_cases hk : known p = true
  · rw [pow_zero hk]
    have h1 := known_lo hk
    have h2 := known_hi hk
    rw [rd, if_pos hk, Int.emod_eq_of_lt (by omega) (by omega)]
  · have hk : known p = false := by simpa using hk
    rw [(unknown_all hk a a 0 0).2.2.2.2.2.2.2, rd, hk]
    rfl
theorem round_start (p : Int) (a : E) (n : Nat) : emul p (rd p 1, 0) (epw p a n) = epw p a n := by
  by_cases hk : known p = true
  · rw [← pow_none p a, ← pow_sum hk, Nat.zero_add]
  · have hk : known p = false := by simpa using hk
    rw [(unknown_all hk _ _ 0 0).2.2.1, (unknown_all hk a a 0 n).2.2.2.2.2.2.2]
theorem round_end (p : Int) (r s : E) (h : ered p r = r) : emul p r (epw p s 0) = r := by
  by_cases hk : known p = true
  · rw [pow_zero hk]
    refine eq_of_cE (emul_rd hk _ _) (by rw [← h]; exact ered_rd hk _) ((emul_al hk _ _).trans ?_)
    rw [mE_one]; exact cE.refl _ _
  · have hk : known p = false := by simpa using hk
    rw [(unknown_all hk _ _ 0 0).2.2.1, ← h]
    simp [ered, rd, hk]
theorem red_mul (p : Int) (r s : E) : ered p (emul p r s) = emul p r s := by
  by_cases hk : known p = true
  · exact eq_of_cE (ered_rd hk _) (emul_rd hk _ _) (ered_al hk _)
  · have hk : known p = false := by simpa using hk
    rw [(unknown_all hk _ _ 0 0).2.2.1]; simp [ered, rd, hk]
theorem red_one (p : Int) : ered p (rd p 1, 0) = (rd p 1, 0) := by
  by_cases hk : known p = true
  · have h1 := known_lo hk
    rw [ered, rd, rd, rd, if_pos hk, if_pos hk, if_pos hk, Int.emod_emod, Int.zero_emod]
  · have hk : known p = false := by simpa using hk
    simp [ered, rd, hk]

def p0 (p a0 a1 : Int) (n : Nat) : Int := (epw p (a0, a1) n).1
def p1 (p a0 a1 : Int) (n : Nat) : Int := (epw p (a0, a1) n).2
instance {p a0 a1 : Int} {n : Nat} : U (p0 p a0 a1 n) := by unfold p0 epw ered; infer_instance
instance {p a0 a1 : Int} {n : Nat} : U (p1 p a0 a1 n) := by unfold p1 epw ered; infer_instance
/-- What stays in the rounds of the power. -/
def Keeps (p r0 r1 s0 s1 : Int) (E : Int) (t0 t1 : Int) : Prop := emul p (r0, r1) (epw p (s0, s1) E.toNat) = (t0, t1) ∧ ered p (r0, r1) = (r0, r1)
theorem Keeps.odd {p r0 r1 s0 s1 E t0 t1 : Int} (h : Keeps p r0 r1 s0 s1 E t0 t1) (h0 : 0 ≤ E) (ho : E % 2 = 1) : Keeps p (m0 p r0 r1 s0 s1) (m1 p r0 r1 s0 s1) (m0 p s0 s1 s0 s1) (m1 p s0 s1 s0 s1) (E / 2) t0 t1 := by
  have e : (E / 2).toNat = E.toNat / 2 := by omega
  refine ⟨?_, ?_⟩
  · rw [← emul_eq, ← emul_eq, e, round_odd p _ _ _ (by omega)]; exact h.1
  · rw [← emul_eq]; exact red_mul _ _ _
theorem Keeps.even {p r0 r1 s0 s1 E t0 t1 : Int} (h : Keeps p r0 r1 s0 s1 E t0 t1) (h0 : 0 ≤ E) (ho : E % 2 = 0) : Keeps p r0 r1 (m0 p s0 s1 s0 s1) (m1 p s0 s1 s0 s1) (E / 2) t0 t1 := by
  have e : (E / 2).toNat = E.toNat / 2 := by omega
  refine ⟨?_, h.2⟩
  rw [← emul_eq, e, round_even p _ _ _ (by omega)]; exact h.1
theorem Keeps.start (p a0 a1 e : Int) : Keeps p (rd p 1) 0 a0 a1 e (p0 p a0 a1 e.toNat) (p1 p a0 a1 e.toNat) := ⟨round_start p _ _, red_one p⟩
theorem Keeps.done {p r0 r1 s0 s1 t0 t1 : Int} (h : Keeps p r0 r1 s0 s1 0 t0 t1) : r0 = t0 ∧ r1 = t1 := by
  have h1 := h.1
  rw [show (0 : Int).toNat = 0 from rfl, round_end p _ _ h.2] at h1
  exact ⟨congrArg Prod.fst h1, congrArg Prod.snd h1⟩

/-- The state of the rounds: the block b7 holds the result so far, b8 the square. -/
structure PowSt (w : World) (p : Int) (b7 b8 : Nat) (r0 r1 s0 s1 : Int) (v : World) : Prop where
  l7 : w.heap.size + 1 + 1 < b7
  l8 : b7 < b8
  lv : b8 < v.heap.size
  cp : v.cell? ⟨w.heap.size, 0, none⟩ = some (.int .u64 p)
  x0 : v.cell? ⟨w.heap.size + 1 + 1, 0, none⟩ = some (.int .u64 0)
  x1 : v.cell? ⟨w.heap.size + 1 + 1, 1, none⟩ = some (.int .u64 0)
  y0 : v.frozen? ⟨w.heap.size + 1 + 1, 0, none⟩ = false
  y1 : v.frozen? ⟨w.heap.size + 1 + 1, 1, none⟩ = false
  cr0 : v.cell? ⟨b7, 0, none⟩ = some (.int .u64 r0)
  cr1 : v.cell? ⟨b7, 1, none⟩ = some (.int .u64 r1)
  fr0 : v.frozen? ⟨b7, 0, none⟩ = false
  fr1 : v.frozen? ⟨b7, 1, none⟩ = false
  cs0 : v.cell? ⟨b8, 0, none⟩ = some (.int .u64 s0)
  cs1 : v.cell? ⟨b8, 1, none⟩ = some (.int .u64 s1)
  fs0 : v.frozen? ⟨b8, 0, none⟩ = false
  fs1 : v.frozen? ⟨b8, 1, none⟩ = false
  nw : Nw w.heap.size w v
theorem PowSt.call {w v v' : World} {p : Int} {b7 b8 : Nat} {r0 r1 s0 s1 : Int} (h : PowSt w p b7 b8 r0 r1 s0 s1 v) (k : Nw v.heap.size v v') : PowSt w p b7 b8 r0 r1 s0 s1 v' :=
  ⟨h.l7, h.l8, Nat.lt_of_lt_of_le h.lv k.b.size, k.hold h.cp, k.hold h.x0, k.hold h.x1, k.holdf h.y0, k.holdf h.y1, k.hold h.cr0, k.hold h.cr1, k.holdf h.fr0, k.holdf h.fr1, k.hold h.cs0, k.hold h.cs1, k.holdf h.fs0, k.holdf h.fs1,
    Nw.next (by have h1 := h.l7; have h2 := h.l8; have h3 := h.lv; omega) h.nw k⟩
theorem PowSt.set7 {w v : World} {p : Int} {b7 b8 : Nat} {r0 r1 s0 s1 u0 u1 : Int} (h : PowSt w p b7 b8 r0 r1 s0 s1 v) :
    PowSt w p b7 b8 u0 u1 s0 s1 ((v.setCell ⟨b7, 0, none⟩ (.int .u64 u0)).setCell ⟨b7, 1, none⟩ (.int .u64 u1)) := by
  have h1 := h.l7
  have h2 := h.l8
  have h3 := h.lv
  exact ⟨h.l7, h.l8, by rw [pair_size]; exact h.lv, pair_far (by dsimp only; omega) h.cp, pair_far (by dsimp only; omega) h.x0, pair_far (by dsimp only; omega) h.x1, pair_frozen h.y0, pair_frozen h.y1,
    pair_0 h.cr0, pair_1 h.cr1, pair_frozen h.fr0, pair_frozen h.fr1, pair_far (by dsimp only; omega) h.cs0, pair_far (by dsimp only; omega) h.cs1, pair_frozen h.fs0, pair_frozen h.fs1, h.nw.pair (by omega)⟩
theorem PowSt.set8 {w v : World} {p : Int} {b7 b8 : Nat} {r0 r1 s0 s1 u0 u1 : Int} (h : PowSt w p b7 b8 r0 r1 s0 s1 v) :
    PowSt w p b7 b8 r0 r1 u0 u1 ((v.setCell ⟨b8, 0, none⟩ (.int .u64 u0)).setCell ⟨b8, 1, none⟩ (.int .u64 u1)) := by
  have h1 := h.l7
  have h2 := h.l8
  have h3 := h.lv
  exact ⟨h.l7, h.l8, by rw [pair_size]; exact h.lv, pair_far (by dsimp only; omega) h.cp, pair_far (by dsimp only; omega) h.x0, pair_far (by dsimp only; omega) h.x1, pair_frozen h.y0, pair_frozen h.y1,
    pair_far (by dsimp only; omega) h.cr0, pair_far (by dsimp only; omega) h.cr1, pair_frozen h.fr0, pair_frozen h.fr1, pair_0 h.cs0, pair_1 h.cs1, pair_frozen h.fs0, pair_frozen h.fs1, h.nw.pair (by omega)⟩
theorem PowSt.next {w v : World} {p : Int} {b7 b8 : Nat} {r0 r1 s0 s1 u0 u1 : Int} (h : PowSt w p b7 b8 r0 r1 s0 s1 v) :
    PowSt w p b7 v.heap.size r0 r1 u0 u1 (v.alloc (.cells #[.int .u64 u0, .int .u64 u1] 23)) := by
  have h1 := h.l7
  have h2 := h.l8
  have h3 := h.lv
  have k : Nw v.heap.size v (v.alloc (.cells #[.int .u64 u0, .int .u64 u1] 23)) := (Nw.refl _ _).made (Nat.le_refl _) _ _
  exact ⟨h.l7, by omega, by simp, k.hold h.cp, k.hold h.x0, k.hold h.x1, k.holdf h.y0, k.holdf h.y1, k.hold h.cr0, k.hold h.cr1, k.holdf h.fr0, k.holdf h.fr1,
    by go_simp, by go_simp, by go_simp, by go_simp, Nw.next (by omega) h.nw k⟩

set_option maxHeartbeats 4000000 in
theorem xPow_u (p a0 a1 e : Int) [ha : U a0] [hc : U a1] [he : U e] (w : World) :
    Calls Try.prog 27 #[.agg #[.int .u64 p], .agg #[.int .u64 a0, .int .u64 a1], .int .u64 e] w fun en w' => en = .returned (.agg #[.int .u64 (p0 p a0 a1 e.toNat), .int .u64 (p1 p a0 a1 e.toNat)]) ∧ Nw w.heap.size w w' := by
  have he0 := he.lo
  have he1 := he.hi
  have hst := Lib.hid (Keeps.start p a0 a1 e)
  go_enter Try.func27, Try.ntmps27
  go_upto_region 1 with fail
  refine name_world ?_
  intro W hW
  have hnw : Nw w.heap.size w W := by rw [hW]; (repeat (first | exact Nw.refl _ _ | refine Nw.drew ?_ | refine Nw.drewN ?_ _ | refine Nw.made (Nat.le_refl _) ?_ _ _))
  have s0 : W.cell? ⟨w.heap.size, 0, none⟩ = some (.int .u64 p) := by rw [hW]; go_simp
  have c0 := fun q : NwAt W => q.nw.hold s0
  have s1 : W.cell? ⟨w.heap.size + 1, 0, none⟩ = some (.int .u64 a0) := by rw [hW]; go_simp
  have c1 := fun q : NwAt W => q.nw.hold s1
  have s2 : W.cell? ⟨w.heap.size + 1, 1, none⟩ = some (.int .u64 a1) := by rw [hW]; go_simp
  have c2 := fun q : NwAt W => q.nw.hold s2
  have r0 : W.cell? ⟨w.heap.size + 1 + 1, 0, none⟩ = some (.int .u64 0) := by rw [hW]; go_simp
  have r1 : W.cell? ⟨w.heap.size + 1 + 1, 1, none⟩ = some (.int .u64 0) := by rw [hW]; go_simp
  have z0 : W.frozen? ⟨w.heap.size + 1 + 1, 0, none⟩ = false := by rw [hW]; go_simp
  have z1 : W.frozen? ⟨w.heap.size + 1 + 1, 1, none⟩ = false := by rw [hW]; go_simp
  have k0 := fun q : NwAt W => q.nw.hold r0
  have k1 := fun q : NwAt W => q.nw.hold r1
  have l0 := fun q : NwAt W => q.nw.holdf z0
  have l1 := fun q : NwAt W => q.nw.holdf z1
  clear hW
  refine from_here ?_
  intro q
  have hz := fun q : NwAt W => Nat.lt_of_lt_of_le (World.block_lt_of_cell? W _ r0) q.nw.b.size
  dsimp only at hz
  go_upto_region 2 with (first | (go_at_call 39; refine (nwAt_of (fReduce_u _ _ _)).mono ?_; clear q; rintro _ _ ⟨rfl, q, rfl⟩))
  replace hz := hz q
  have k : Nw q.out.heap.size q.out (q.out.alloc (.cells #[.int .u64 (rd p 1), .int .u64 0] 23)) := (Nw.refl _ _).made (Nat.le_refl _) _ _
  have hnw2 : Nw w.heap.size w q.out := Nw.next (by have := World.block_lt_of_cell? W _ r0; dsimp only at this; omega) hnw q.nw
  have first : PowSt w p q.out.heap.size (q.out.heap.size + 1) (rd p 1) 0 a0 a1 ((q.out.alloc (.cells #[.int .u64 (rd p 1), .int .u64 0] 23)).alloc (.cells #[.int .u64 a0, .int .u64 a1] 23)) := by
    have k2 : Nw q.out.heap.size q.out ((q.out.alloc (.cells #[.int .u64 (rd p 1), .int .u64 0] 23)).alloc (.cells #[.int .u64 a0, .int .u64 a1] 23)) := k.made (Nat.le_refl _) _ _
    exact ⟨hz, by omega, by simp, k2.hold (c0 q), k2.hold (k0 q), k2.hold (k1 q), k2.holdf (l0 q), k2.holdf (l1 q), by go_simp, by go_simp, by go_simp, by go_simp, by go_simp, by go_simp, by go_simp, by go_simp, Nw.next (by omega) hnw2 k2⟩
  have d1 : (q.out.alloc (.cells #[.int .u64 (rd p 1), .int .u64 0] 23)).cell? ⟨w.heap.size + 1, 0, none⟩ = some (.int .u64 a0) := k.hold (c1 q)
  have d2 : (q.out.alloc (.cells #[.int .u64 (rd p 1), .int .u64 0] 23)).cell? ⟨w.heap.size + 1, 1, none⟩ = some (.int .u64 a1) := k.hold (c2 q)
  have d3 : (q.out.alloc (.cells #[.int .u64 (rd p 1), .int .u64 0] 23)).heap.size = q.out.heap.size + 1 := by simp
  generalize q.out.alloc (.cells #[.int .u64 (rd p 1), .int .u64 0] 23) = v2 at *
  generalize q.out.heap.size = b7 at *
  clear k hnw2 q c0 c1 c2 k0 k1 l0 l1 s0 s1 s2 r0 r1 z0 z1 hnw W
  go_wp2
  go_loopw [2, 8] (fun ev sv wr => ∃ E R0 R1 S0 S1 : Int, ∃ b8 : Nat, ev = .int .u64 E ∧ sv = .pointer (some ⟨b8, 0, none⟩) ∧ U E ∧ U R0 ∧ U R1 ∧ U S0 ∧ U S1 ∧ Keeps p R0 R1 S0 S1 E (p0 p a0 a1 e.toNat) (p1 p a0 a1 e.toNat) ∧ PowSt w p b7 b8 R0 R1 S0 S1 wr) (fun ev _ _ => (intOf ev).toNat)
  case atStart => exact ⟨e, rd p 1, 0, a0, a1, b7 + 1, rfl, rfl, he, inferInstance, inferInstance, ha, hc, hst.out, first⟩
  case round =>
    obtain ⟨E, R0, R1, S0, S1, b8, rfl, rfl, hE, hR0, hR1, hS0, hS1, HK, HS⟩ := hrel
    clear first d1 d2
    have hE0 := hE.lo
    have hE1 := hE.hi
    have hand := and_one_u64 E hE0 hE1
    obtain ⟨l7, l8, lv, cp, x0, x1, y0, y1, cr0, cr1, fr0, fr1, cs0, cs1, fs0, fs1, nw⟩ := id HS
    by_cases hpos : 0 < E
    · by_cases hodd : E % 2 = 1
      · go_upto_region 7 with ((go_at_call 17; refine (xMul_u _ _ _ _ _ _).mono ?_; rintro _ w3 ⟨rfl, hb3⟩; replace HS := HS.call hb3; clear l7 l8 lv cp x0 x1 y0 y1 cr0 cr1 fr0 fr1 cs0 cs1 fs0 fs1 nw; obtain ⟨l7, l8, lv, cp, x0, x1, y0, y1, cr0, cr1, fr0, fr1, cs0, cs1, fs0, fs1, nw⟩ := id HS; clear hb3))
        replace HS := PowSt.set7 (u0 := m0 p R0 R1 S0 S1) (u1 := m1 p R0 R1 S0 S1) HS
        generalize (World.setCell _ ⟨b7, 0, none⟩ (Value.int IntKind.u64 (m0 p R0 R1 S0 S1))).setCell ⟨b7, 1, none⟩ (Value.int IntKind.u64 (m1 p R0 R1 S0 S1)) = w4 at *
        clear l7 l8 lv cp x0 x1 y0 y1 cr0 cr1 fr0 fr1 cs0 cs1 fs0 fs1 nw
        obtain ⟨l7, l8, lv, cp, x0, x1, y0, y1, cr0, cr1, fr0, fr1, cs0, cs1, fs0, fs1, nw⟩ := id HS
        go_upto_region 8 with ((go_at_call 17; refine (xMul_u _ _ _ _ _ _).mono ?_; rintro _ w3 ⟨rfl, hb3⟩; replace HS := HS.call hb3; clear l7 l8 lv cp x0 x1 y0 y1 cr0 cr1 fr0 fr1 cs0 cs1 fs0 fs1 nw; obtain ⟨l7, l8, lv, cp, x0, x1, y0, y1, cr0, cr1, fr0, fr1, cs0, cs1, fs0, fs1, nw⟩ := id HS; clear hb3))
        replace HS := PowSt.set8 (u0 := m0 p S0 S1 S0 S1) (u1 := m1 p S0 S1 S0 S1) HS
        generalize (World.setCell _ ⟨b8, 0, none⟩ (Value.int IntKind.u64 (m0 p S0 S1 S0 S1))).setCell ⟨b8, 1, none⟩ (Value.int IntKind.u64 (m1 p S0 S1 S0 S1)) = w4 at *
        clear l7 l8 lv cp x0 x1 y0 y1 cr0 cr1 fr0 fr1 cs0 cs1 fs0 fs1 nw
        obtain ⟨l7, l8, lv, cp, x0, x1, y0, y1, cr0, cr1, fr0, fr1, cs0, cs1, fs0, fs1, nw⟩ := id HS
        replace HS := PowSt.next (u0 := m0 p S0 S1 S0 S1) (u1 := m1 p S0 S1 S0 S1) HS
        go_wp2_with fail
        exact ⟨⟨E / 2, _, _, _, _, _, rfl, rfl, ⟨by omega, by omega⟩, inferInstance, inferInstance, inferInstance, inferInstance, HK.odd hE0 hodd, HS⟩, by simp [intOf]; omega⟩
      · have heven : E % 2 = 0 := by omega
        go_upto_region 8 with ((go_at_call 17; refine (xMul_u _ _ _ _ _ _).mono ?_; rintro _ w3 ⟨rfl, hb3⟩; replace HS := HS.call hb3; clear l7 l8 lv cp x0 x1 y0 y1 cr0 cr1 fr0 fr1 cs0 cs1 fs0 fs1 nw; obtain ⟨l7, l8, lv, cp, x0, x1, y0, y1, cr0, cr1, fr0, fr1, cs0, cs1, fs0, fs1, nw⟩ := id HS; clear hb3))
        replace HS := PowSt.set8 (u0 := m0 p S0 S1 S0 S1) (u1 := m1 p S0 S1 S0 S1) HS
        generalize (World.setCell _ ⟨b8, 0, none⟩ (Value.int IntKind.u64 (m0 p S0 S1 S0 S1))).setCell ⟨b8, 1, none⟩ (Value.int IntKind.u64 (m1 p S0 S1 S0 S1)) = w4 at *
        clear l7 l8 lv cp x0 x1 y0 y1 cr0 cr1 fr0 fr1 cs0 cs1 fs0 fs1 nw
        obtain ⟨l7, l8, lv, cp, x0, x1, y0, y1, cr0, cr1, fr0, fr1, cs0, cs1, fs0, fs1, nw⟩ := id HS
        replace HS := PowSt.next (u0 := m0 p S0 S1 S0 S1) (u1 := m1 p S0 S1 S0 S1) HS
        go_wp2_with fail
        exact ⟨⟨E / 2, _, _, _, _, _, rfl, rfl, ⟨by omega, by omega⟩, hR0, hR1, inferInstance, inferInstance, HK.even hE0 heven, HS⟩, by simp [intOf]; omega⟩
    · obtain rfl : E = 0 := by omega
      obtain ⟨h1, h2⟩ := HK.done
      go_wp2
      exact bodyPost_ret (v := .agg #[.int .u64 (p0 p a0 a1 e.toNat), .int .u64 (p1 p a0 a1 e.toNat)]) (by simp [results, Try.results27, go_sem, x0, x1]) rfl ⟨rfl, nw.pair (by omega)⟩
end Go.Proofs.Ytkpgejaamhkdnaa
