/- The walks of the statements on the operations. -/
import Derived.Test.YtdgnlagoagpejaaExam
namespace Go.Proofs.Ytdgnlagoagpejaa
open Go.RowKit

set_option maxHeartbeats 4000000 in
theorem law_arithmetic (p a b : Int) (hp : 0 ≤ p) (hp' : p ≤ 18446744073709551615) (ha : 0 ≤ a) (ha' : a ≤ 18446744073709551615) (hb : 0 ≤ b) (hb' : b ≤ 18446744073709551615) (w : World) :
    Calls Try.prog 3 #[.int .u64 p, .int .u64 a, .int .u64 b] w fun e w' => e = .returned (.bool true) ∧ Nw w.heap.size w w' := by
  go_enter Try.func3, Try.ntmps3
  go_wp2_with fail
  refine (awake_any _).mono ?_
  rintro e w1 ⟨rfl, hb1⟩
  have c0_1 : w1.cell? ⟨w.heap.size, 0, none⟩ = some (.int .u64 p) := hb1.hold (by go_simp)
  go_wp2_with fail
  refine (fReduce_any p a (by omega) (by omega) _).mono ?_
  rintro e w2 ⟨rfl, hb2⟩
  have c0_2 := hb2.hold c0_1
  clear c0_1
  go_wp2_with fail
  refine (rReduce_any p a (by omega) (by omega) _).mono ?_
  rintro e w3 ⟨rfl, hb3⟩
  have c0_3 := hb3.hold c0_2
  clear c0_2
  go_wp2_with fail
  refine (fAdd_any p a b (by omega) (by omega) (by omega) (by omega) _).mono ?_
  rintro e w4 ⟨rfl, hb4⟩
  have c0_4 := hb4.hold c0_3
  clear c0_3
  go_wp2_with fail
  refine (rAdd_any p a b (by omega) (by omega) (by omega) (by omega) _).mono ?_
  rintro e w5 ⟨rfl, hb5⟩
  have c0_5 := hb5.hold c0_4
  clear c0_4
  go_wp2_with fail
  refine (fSub_any p a b (by omega) (by omega) (by omega) (by omega) _).mono ?_
  rintro e w6 ⟨rfl, hb6⟩
  have c0_6 := hb6.hold c0_5
  clear c0_5
  go_wp2_with fail
  refine (rSub_any p a b (by omega) (by omega) (by omega) (by omega) (by omega) (by omega) _).mono ?_
  rintro e w7 ⟨rfl, hb7⟩
  have c0_7 := hb7.hold c0_6
  clear c0_6
  go_wp2_with fail
  refine (fNeg_any p a (by omega) (by omega) _).mono ?_
  rintro e w8 ⟨rfl, hb8⟩
  have c0_8 := hb8.hold c0_7
  clear c0_7
  go_wp2_with fail
  refine (rNeg_any p a (by omega) (by omega) (by omega) (by omega) _).mono ?_
  rintro e w9 ⟨rfl, hb9⟩
  have c0_9 := hb9.hold c0_8
  clear c0_8
  go_wp2_with fail
  refine (fMul_any p a b (by omega) (by omega) (by omega) (by omega) _).mono ?_
  rintro e w10 ⟨rfl, hb10⟩
  have c0_10 := hb10.hold c0_9
  clear c0_9
  go_wp2_with fail
  refine (rMul_any p a b (by omega) (by omega) (by omega) (by omega) _).mono ?_
  rintro e w11 ⟨rfl, hb11⟩
  have c0_11 := hb11.hold c0_10
  clear c0_10
  go_wp2_with fail
  go_ret
  exact ⟨by simp, by (repeat (first | exact Nw.refl _ _ | refine Nw.drew ?_ | refine Nw.drewN ?_ _ | refine Nw.made (Nat.le_refl _) ?_ _ _ | refine Nw.next (Nat.le_refl _) ?_ (by assumption)))⟩

set_option maxHeartbeats 4000000 in
theorem law_pow (p a e : Int) (ha : 0 ≤ a) (ha' : a ≤ 18446744073709551615) (he : 0 ≤ e) (he' : e ≤ 18446744073709551615) (w : World) :
    Calls Try.prog 5 #[.int .u64 p, .int .u64 a, .int .u64 e] w fun en w' => en = .returned (.bool true) ∧ Nw w.heap.size w w' := by
  go_enter Try.func5, Try.ntmps5
  go_wp2_with fail
  refine (awake_any _).mono ?_
  rintro e w1 ⟨rfl, hb1⟩
  go_wp2_with fail
  refine (fPow_any p a e (by omega) (by omega) (by omega) (by omega) _).mono ?_
  rintro e w2 ⟨rfl, hb2⟩
  go_wp2_with fail
  refine (rPow_any p a e (by omega) (by omega) (by omega) (by omega) _).mono ?_
  rintro e w3 ⟨rfl, hb3⟩
  go_wp2_with fail
  go_ret
  exact ⟨by simp, by (repeat (first | exact Nw.refl _ _ | refine Nw.drew ?_ | refine Nw.drewN ?_ _ | refine Nw.made (Nat.le_refl _) ?_ _ _ | refine Nw.next (Nat.le_refl _) ?_ (by assumption)))⟩
end Go.Proofs.Ytdgnlagoagpejaa
