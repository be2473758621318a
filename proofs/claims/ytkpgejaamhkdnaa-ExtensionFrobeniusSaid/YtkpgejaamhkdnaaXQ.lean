/- The walk of the reference's power. -/
import Derived.Test.YtkpgejaamhkdnaaXP
namespace Go.Proofs.Ytkpgejaamhkdnaa
open Go.RowKit Go.BigFrame Ext

theorem dbl_even (p a0 a1 : Int) (n : Nat) : m0 p (p0 p a0 a1 n) (p1 p a0 a1 n) (p0 p a0 a1 n) (p1 p a0 a1 n) = p0 p a0 a1 (n + n) ∧ m1 p (p0 p a0 a1 n) (p1 p a0 a1 n) (p0 p a0 a1 n) (p1 p a0 a1 n) = p1 p a0 a1 (n + n) := by
  have h : emul p (epw p (a0, a1) n) (epw p (a0, a1) n) = epw p (a0, a1) (n + n) := by
    by_cases hk : known p = true
    · exact (pow_sum hk _ _ _).symm
    · have hk : known p = false := by simpa using hk
      rw [(unknown_all hk _ _ 0 0).2.2.1, (unknown_all hk (a0, a1) (a0, a1) 0 (n + n)).2.2.2.2.2.2.2]
  exact ⟨congrArg Prod.fst h, congrArg Prod.snd h⟩
theorem dbl_odd (p a0 a1 : Int) (n : Nat) : m0 p (p0 p a0 a1 n) (p1 p a0 a1 n) a0 a1 = p0 p a0 a1 (n + 1) ∧ m1 p (p0 p a0 a1 n) (p1 p a0 a1 n) a0 a1 = p1 p a0 a1 (n + 1) := by
  have h : emul p (epw p (a0, a1) n) (a0, a1) = epw p (a0, a1) (n + 1) := by
    by_cases hk : known p = true
    · exact pow_next hk _ _
    · have hk : known p = false := by simpa using hk
      rw [(unknown_all hk _ _ 0 0).2.2.1, (unknown_all hk (a0, a1) (a0, a1) 0 (n + 1)).2.2.2.2.2.2.2]
  exact ⟨congrArg Prod.fst h, congrArg Prod.snd h⟩
theorem p_none (p a0 a1 : Int) : rd p 1 = p0 p a0 a1 0 ∧ 0 = p1 p a0 a1 0 :=
  ⟨(congrArg Prod.fst (pow_none p (a0, a1))).symm, (congrArg Prod.snd (pow_none p (a0, a1))).symm⟩

/-- The state of the rounds: the block b7 holds the power so far. -/
structure PowSy (w : World) (a0 a1 : Int) (b7 : Nat) (r0 r1 : Int) (v : World) : Prop where
  l7 : w.heap.size + 1 < b7
  lv : b7 < v.heap.size
  ca0 : v.cell? ⟨w.heap.size, 0, none⟩ = some (.int .u64 a0)
  ca1 : v.cell? ⟨w.heap.size, 1, none⟩ = some (.int .u64 a1)
  x0 : v.cell? ⟨w.heap.size + 1, 0, none⟩ = some (.int .u64 0)
  x1 : v.cell? ⟨w.heap.size + 1, 1, none⟩ = some (.int .u64 0)
  y0 : v.frozen? ⟨w.heap.size + 1, 0, none⟩ = false
  y1 : v.frozen? ⟨w.heap.size + 1, 1, none⟩ = false
  cr0 : v.cell? ⟨b7, 0, none⟩ = some (.int .u64 r0)
  cr1 : v.cell? ⟨b7, 1, none⟩ = some (.int .u64 r1)
  fr0 : v.frozen? ⟨b7, 0, none⟩ = false
  fr1 : v.frozen? ⟨b7, 1, none⟩ = false
  nw : Nw w.heap.size w v
theorem PowSy.call {w v v' : World} {a0 a1 : Int} {b7 : Nat} {r0 r1 : Int} (h : PowSy w a0 a1 b7 r0 r1 v) (k : Nw v.heap.size v v') : PowSy w a0 a1 b7 r0 r1 v' :=
  ⟨h.l7, Nat.lt_of_lt_of_le h.lv k.b.size, k.hold h.ca0, k.hold h.ca1, k.hold h.x0, k.hold h.x1, k.holdf h.y0, k.holdf h.y1, k.hold h.cr0, k.hold h.cr1, k.holdf h.fr0, k.holdf h.fr1,
    Nw.next (by have h1 := h.l7; have h3 := h.lv; omega) h.nw k⟩
theorem PowSy.set7 {w v : World} {a0 a1 : Int} {b7 : Nat} {r0 r1 u0 u1 : Int} (h : PowSy w a0 a1 b7 r0 r1 v) :
    PowSy w a0 a1 b7 u0 u1 ((v.setCell ⟨b7, 0, none⟩ (.int .u64 u0)).setCell ⟨b7, 1, none⟩ (.int .u64 u1)) := by
  have h1 := h.l7
  have h3 := h.lv
  exact ⟨h.l7, by rw [pair_size]; exact h.lv, pair_far (by dsimp only; omega) h.ca0, pair_far (by dsimp only; omega) h.ca1, pair_far (by dsimp only; omega) h.x0, pair_far (by dsimp only; omega) h.x1, pair_frozen h.y0, pair_frozen h.y1,
    pair_0 h.cr0, pair_1 h.cr1, pair_frozen h.fr0, pair_frozen h.fr1, h.nw.pair (by omega)⟩

set_option maxHeartbeats 4000000 in
theorem yPow_u (p a0 a1 e : Int) [ha : U a0] [hc : U a1] [he : U e] (w : World) :
    Calls Try.prog 28 #[.int .u64 p, .agg #[.int .u64 a0, .int .u64 a1], .int .u64 e] w fun en w' => en = .returned (.agg #[.int .u64 (p0 p a0 a1 e.toNat), .int .u64 (p1 p a0 a1 e.toNat)]) ∧ Nw w.heap.size w w' := by
  have he0 := he.lo
  have he1 := he.hi
  have hst := Lib.hid (p_none p a0 a1)
  go_enter Try.func28, Try.ntmps28
  go_upto_region 1 with fail
  refine name_world ?_
  intro W hW
  have hnw : Nw w.heap.size w W := by rw [hW]; (repeat (first | exact Nw.refl _ _ | refine Nw.drew ?_ | refine Nw.drewN ?_ _ | refine Nw.made (Nat.le_refl _) ?_ _ _))
  have s1 : W.cell? ⟨w.heap.size, 0, none⟩ = some (.int .u64 a0) := by rw [hW]; go_simp
  have c1 := fun q : NwAt W => q.nw.hold s1
  have s2 : W.cell? ⟨w.heap.size, 1, none⟩ = some (.int .u64 a1) := by rw [hW]; go_simp
  have c2 := fun q : NwAt W => q.nw.hold s2
  have r0 : W.cell? ⟨w.heap.size + 1, 0, none⟩ = some (.int .u64 0) := by rw [hW]; go_simp
  have r1 : W.cell? ⟨w.heap.size + 1, 1, none⟩ = some (.int .u64 0) := by rw [hW]; go_simp
  have z0 : W.frozen? ⟨w.heap.size + 1, 0, none⟩ = false := by rw [hW]; go_simp
  have z1 : W.frozen? ⟨w.heap.size + 1, 1, none⟩ = false := by rw [hW]; go_simp
  have k0 := fun q : NwAt W => q.nw.hold r0
  have k1 := fun q : NwAt W => q.nw.hold r1
  have l0 := fun q : NwAt W => q.nw.holdf z0
  have l1 := fun q : NwAt W => q.nw.holdf z1
  clear hW
  refine from_here ?_
  intro q
  have hz := fun q : NwAt W => Nat.lt_of_lt_of_le (World.block_lt_of_cell? W _ r0) q.nw.b.size
  dsimp only at hz
  go_upto_region 2 with (first | (go_at_call 41; refine (nwAt_of (rReduce_u _ _ _)).mono ?_; clear q; rintro _ _ ⟨rfl, q, rfl⟩))
  replace hz := hz q
  have k : Nw q.out.heap.size q.out (q.out.alloc (.cells #[.int .u64 (rd p 1), .int .u64 0] 23)) := (Nw.refl _ _).made (Nat.le_refl _) _ _
  have hnw2 : Nw w.heap.size w q.out := Nw.next (by have := World.block_lt_of_cell? W _ r0; dsimp only at this; omega) hnw q.nw
  have first : PowSy w a0 a1 q.out.heap.size (rd p 1) 0 (q.out.alloc (.cells #[.int .u64 (rd p 1), .int .u64 0] 23)) :=
    ⟨hz, by simp, k.hold (c1 q), k.hold (c2 q), k.hold (k0 q), k.hold (k1 q), k.holdf (l0 q), k.holdf (l1 q), by go_simp, by go_simp, by go_simp, by go_simp, Nw.next (by omega) hnw2 k⟩
  generalize q.out.alloc (.cells #[.int .u64 (rd p 1), .int .u64 0] 23) = v2 at *
  generalize q.out.heap.size = b7 at *
  clear k hnw2 q c1 c2 k0 k1 l0 l1 s1 s2 r0 r1 z0 z1 hnw W
  go_wp2
  go_loopw [8] (fun iv wr => ∃ k : Nat, k ≤ 64 ∧ iv = .int .i64 ((k : Int) - 1) ∧ PowSy w a0 a1 b7 (p0 p a0 a1 (e.toNat / 2 ^ k)) (p1 p a0 a1 (e.toNat / 2 ^ k)) wr) (fun iv _ => (intOf iv + 1).toNat)
  case atStart => exact ⟨64, Nat.le_refl _, rfl, by rw [Nat.div_eq_of_lt (by omega), ← hst.out.1, ← hst.out.2]; exact first⟩
  case round =>
    obtain ⟨k, hk, rfl, HS⟩ := hrel
    clear first
    by_cases hpos : 0 < k
    · obtain ⟨j, rfl⟩ : ∃ j, k = j + 1 := ⟨k - 1, by omega⟩
      have ej : ((j + 1 : Nat) : Int) - 1 = (j : Int) := by omega
      rw [ej]
      clear ej
      obtain ⟨n, hn⟩ : ∃ n, n = e.toNat / 2 ^ (j + 1) := ⟨_, rfl⟩
      obtain ⟨m, hm⟩ : ∃ m, m = e.toNat / 2 ^ j := ⟨_, rfl⟩
      have hnm : n = m / 2 := by rw [hn, hm, Nat.pow_succ, Nat.div_div_eq_div_mul]
      have hem : e / 2 ^ j = (m : Int) := by
        rw [hm]; have h1 : e = (e.toNat : Int) := by omega
        rw [h1]; simp
      have hml : (m : Int) ≤ e := by rw [hm]; have := Nat.div_le_self e.toNat (2 ^ j); omega
      have hand := and_one_u64 (m : Int) (by omega) (by omega)
      rw [← hem] at hand
      rw [← hn] at HS
      have HN := Lib.hid hn
      have HM := Lib.hid hm
      have HD := Lib.hid (dbl_even p a0 a1 n)
      have HO := Lib.hid (dbl_odd p a0 a1 (n + n))
      clear hn hm
      obtain ⟨l7, lv, ca0, ca1, x0, x1, y0, y1, cr0, cr1, fr0, fr1, nw⟩ := id HS
      by_cases hodd : m % 2 = 1
      · have hb : bits BinOp.and IntKind.u64 (e / 2 ^ j) 1 = 1 := by rw [hand, hem]; omega
        have HE := Lib.hid (show e.toNat / 2 ^ j = n + n + 1 by rw [← HM.out]; omega)
        clear hand hem hnm hml
        go_upto_region 6 with ((go_at_call 18; refine (yMul_u _ _ _ _ _ _).mono ?_; rintro _ w3 ⟨rfl, hb3⟩; replace HS := HS.call hb3; clear l7 lv ca0 ca1 x0 x1 y0 y1 cr0 cr1 fr0 fr1 nw; obtain ⟨l7, lv, ca0, ca1, x0, x1, y0, y1, cr0, cr1, fr0, fr1, nw⟩ := id HS; clear hb3))
        rw [HD.out.1, HD.out.2]
        replace HS := PowSy.set7 (u0 := p0 p a0 a1 (n + n)) (u1 := p1 p a0 a1 (n + n)) HS
        generalize (World.setCell _ ⟨b7, 0, none⟩ (Value.int IntKind.u64 (p0 p a0 a1 (n + n)))).setCell ⟨b7, 1, none⟩ (Value.int IntKind.u64 (p1 p a0 a1 (n + n))) = w4 at *
        clear l7 lv ca0 ca1 x0 x1 y0 y1 cr0 cr1 fr0 fr1 nw
        obtain ⟨l7, lv, ca0, ca1, x0, x1, y0, y1, cr0, cr1, fr0, fr1, nw⟩ := id HS
        go_wp2_with ((go_at_call 18; refine (yMul_u _ _ _ _ _ _).mono ?_; rintro _ w3 ⟨rfl, hb3⟩; replace HS := HS.call hb3; clear l7 lv ca0 ca1 x0 x1 y0 y1 cr0 cr1 fr0 fr1 nw; obtain ⟨l7, lv, ca0, ca1, x0, x1, y0, y1, cr0, cr1, fr0, fr1, nw⟩ := id HS; clear hb3))
        rw [HO.out.1, HO.out.2]
        replace HS := PowSy.set7 (u0 := p0 p a0 a1 (n + n + 1)) (u1 := p1 p a0 a1 (n + n + 1)) HS
        generalize (World.setCell _ ⟨b7, 0, none⟩ (Value.int IntKind.u64 (p0 p a0 a1 (n + n + 1)))).setCell ⟨b7, 1, none⟩ (Value.int IntKind.u64 (p1 p a0 a1 (n + n + 1))) = w4 at *
        clear l7 lv ca0 ca1 x0 x1 y0 y1 cr0 cr1 fr0 fr1 nw
        obtain ⟨l7, lv, ca0, ca1, x0, x1, y0, y1, cr0, cr1, fr0, fr1, nw⟩ := id HS
        exact ⟨⟨j, by omega, rfl, by rw [HE.out]; exact HS⟩, by simp [intOf]⟩
      · have hb : bits BinOp.and IntKind.u64 (e / 2 ^ j) 1 = 0 := by rw [hand, hem]; omega
        have HE := Lib.hid (show e.toNat / 2 ^ j = n + n by rw [← HM.out]; omega)
        clear hand hem hnm hml
        go_upto_region 6 with ((go_at_call 18; refine (yMul_u _ _ _ _ _ _).mono ?_; rintro _ w3 ⟨rfl, hb3⟩; replace HS := HS.call hb3; clear l7 lv ca0 ca1 x0 x1 y0 y1 cr0 cr1 fr0 fr1 nw; obtain ⟨l7, lv, ca0, ca1, x0, x1, y0, y1, cr0, cr1, fr0, fr1, nw⟩ := id HS; clear hb3))
        rw [HD.out.1, HD.out.2]
        replace HS := PowSy.set7 (u0 := p0 p a0 a1 (n + n)) (u1 := p1 p a0 a1 (n + n)) HS
        generalize (World.setCell _ ⟨b7, 0, none⟩ (Value.int IntKind.u64 (p0 p a0 a1 (n + n)))).setCell ⟨b7, 1, none⟩ (Value.int IntKind.u64 (p1 p a0 a1 (n + n))) = w4 at *
        clear l7 lv ca0 ca1 x0 x1 y0 y1 cr0 cr1 fr0 fr1 nw
        obtain ⟨l7, lv, ca0, ca1, x0, x1, y0, y1, cr0, cr1, fr0, fr1, nw⟩ := id HS
        go_wp2_with fail
        exact ⟨⟨j, by omega, rfl, by rw [HE.out]; exact HS⟩, by simp [intOf]⟩
    · obtain rfl : k = 0 := by omega
      have ej : ((0 : Nat) : Int) - 1 = -1 := by omega
      rw [ej]
      clear ej
      rw [Nat.pow_zero, Nat.div_one] at HS
      obtain ⟨l7, lv, ca0, ca1, x0, x1, y0, y1, cr0, cr1, fr0, fr1, nw⟩ := id HS
      go_wp2
      exact bodyPost_ret (v := .agg #[.int .u64 (p0 p a0 a1 e.toNat), .int .u64 (p1 p a0 a1 e.toNat)]) (by simp [results, Try.results28, go_sem, x0, x1]) rfl ⟨rfl, nw.pair (by omega)⟩
end Go.Proofs.Ytkpgejaamhkdnaa
