/- The walk of the statement on the inverse. -/
import Derived.Test.YtdgnlagoagpejaaLawB
namespace Go.Proofs.Ytdgnlagoagpejaa
open Go.RowKit

theorem not_known_pred {p : Int} (hk : known p = true) : known (p - 1) = false := by
  rcases known_cases hk with rfl | rfl | rfl | rfl | rfl | rfl | rfl <;> decide
theorem iv_unknown {p a : Int} (hk : known p = false) : iv p a = 0 := by rw [iv, pw, hk]; rfl
theorem ml_unknown {p a b : Int} (hk : known p = false) : ml p a b = 0 := by rw [ml, hk]; rfl

set_option maxHeartbeats 4000000 in
theorem law_inverse (n a b : Int) (hn : 0 ≤ n) (hn' : n ≤ 255) (ha : 0 ≤ a) (ha' : a ≤ 18446744073709551615) (hb : 0 ≤ b) (hb' : b ≤ 18446744073709551615) (w : World) :
    Calls Try.prog 4 #[.int .u8 n, .int .u64 a, .int .u64 b] w fun e w' => e = .returned (.bool true) ∧ Nw w.heap.size w w' := by
  obtain ⟨p, hp⟩ : ∃ p, p = prime n := ⟨_, rfl⟩
  have hk : known p = true := by rw [hp]; exact prime_known n
  have hpl := known_lo hk
  have hph := known_hi hk
  have hil := @iv_lo p b
  have hih := @iv_hi p b
  have hz1 : ¬ p = 0 := by omega
  have hz2 : 0 < p := by omega
  have HP := Lib.hid hp
  clear hp
  by_cases hz : b % p = 0
  · have e1 := iv_zero hk hz
    have e2 : ml p a (iv p b) = 0 := by rw [e1, ml, if_pos hk, Int.mul_zero, Int.zero_emod]
    have E1 := Lib.hid e1
    have E2 := Lib.hid e2
    clear e1 e2 hk
    go_enter Try.func4, Try.ntmps4
    go_wp2_with fail
    refine (rPrime_any n hn hn' _).mono ?_
    rintro e w1 ⟨rfl, hb1⟩
    rw [← HP.out]
    go_wp2_with fail
    refine (fInv_any p b (by omega) (by omega) (by omega) (by omega) _).mono ?_
    rintro e w2 ⟨rfl, hb2⟩
    rw [E1.out]
    have c0_2 : w2.cell? ⟨w1.heap.size, 0, none⟩ = some (.int .u64 p) := hb2.hold (by go_simp)
    go_wp2_with fail
    refine (awake_any _).mono ?_
    rintro e w3 ⟨rfl, hb3⟩
    have c0_3 := hb3.hold c0_2
    clear c0_2
    go_wp2_with fail
    refine (fDiv_any p a b (by omega) (by omega) (by omega) (by omega) (by omega) (by omega) _).mono ?_
    rintro e w4 ⟨rfl, hb4⟩
    rw [E2.out]
    have c0_4 := hb4.hold c0_3
    clear c0_3
    go_wp2_with fail
    go_ret
    exact ⟨rfl, by (repeat (first | exact Nw.refl _ _ | refine Nw.drew ?_ | refine Nw.drewN ?_ _ | refine Nw.made (Nat.le_refl _) ?_ _ _ | refine Nw.next (Nat.le_refl _) ?_ (by assumption)))⟩
  · have hz0 : (b % p == 0) = false := by simpa using hz
    have hlt : iv p b < p := by rw [iv, pw, if_pos hk]; exact Int.emod_lt_of_pos _ (by omega)
    have e1 : ml p (iv p b) b = 1 := by rw [ml, if_pos hk]; exact iv_mul hk hb hz
    have e3 : iv (p - 1) b = 0 := iv_unknown (not_known_pred hk)
    have e4 : ml 0 a (iv 0 b) = 0 := ml_unknown rfl
    have E1 := Lib.hid e1
    have E3 := Lib.hid e3
    have E4 := Lib.hid e4
    clear e1 e3 e4 hk hz
    go_enter Try.func4, Try.ntmps4
    go_wp2_with fail
    refine (rPrime_any n hn hn' _).mono ?_
    rintro e w1 ⟨rfl, hb1⟩
    rw [← HP.out]
    go_wp2_with fail
    refine (fInv_any p b (by omega) (by omega) (by omega) (by omega) _).mono ?_
    rintro e w2 ⟨rfl, hb2⟩
    have c0_2 : w2.cell? ⟨w1.heap.size, 0, none⟩ = some (.int .u64 p) := hb2.hold (by go_simp)
    go_wp2_with fail
    refine (awake_any _).mono ?_
    rintro e w3 ⟨rfl, hb3⟩
    have c0_3 := hb3.hold c0_2
    clear c0_2
    go_wp2_with fail
    refine (rMul_any p (iv p b) b (by omega) (by omega) (by omega) (by omega) _).mono ?_
    rintro e w4 ⟨rfl, hb4⟩
    rw [E1.out]
    have c0_4 := hb4.hold c0_3
    clear c0_3
    go_wp2_with fail
    refine (fDiv_any p a b (by omega) (by omega) (by omega) (by omega) (by omega) (by omega) _).mono ?_
    rintro e w5 ⟨rfl, hb5⟩
    have c0_5 := hb5.hold c0_4
    clear c0_4
    go_wp2_with fail
    refine (rMul_any p a (iv p b) (by omega) (by omega) (by omega) (by omega) _).mono ?_
    rintro e w6 ⟨rfl, hb6⟩
    have c0_6 := hb6.hold c0_5
    clear c0_5
    go_wp2_with fail
    refine (fInv_any (p - 1) b (by omega) (by omega) (by omega) (by omega) _).mono ?_
    rintro e w7 ⟨rfl, hb7⟩
    rw [E3.out]
    have c0_7 := hb7.hold c0_6
    clear c0_6
    go_wp2_with fail
    refine (fDiv_any 0 a b (by omega) (by omega) (by omega) (by omega) (by omega) (by omega) _).mono ?_
    rintro e w8 ⟨rfl, hb8⟩
    rw [E4.out]
    have c0_8 := hb8.hold c0_7
    clear c0_7
    go_wp2_with fail
    go_ret
    exact ⟨by simp, by (repeat (first | exact Nw.refl _ _ | refine Nw.drew ?_ | refine Nw.drewN ?_ _ | refine Nw.made (Nat.le_refl _) ?_ _ _ | refine Nw.next (Nat.le_refl _) ?_ (by assumption)))⟩
end Go.Proofs.Ytdgnlagoagpejaa
