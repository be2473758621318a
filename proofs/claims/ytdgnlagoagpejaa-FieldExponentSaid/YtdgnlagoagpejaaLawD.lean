/- The walk of the statement on the exponent: raising to it is injective. -/
import Derived.Test.YtdgnlagoagpejaaLawC
namespace Go.Proofs.Ytdgnlagoagpejaa
open Go.RowKit

theorem back_of {p a : Int} {e d k : Nat} (hk : known p = true) (h0 : 0 ≤ a) (h : e * d = (p - 1).toNat * k + 1) : (a ^ e % p) ^ d % p = a % p := by
  have hp := known_lo hk
  rw [emod_pow, ← Int.pow_mul, h, Int.pow_succ, Int.pow_mul]
  by_cases hz : a % p = 0
  · rw [Int.mul_emod, hz, Int.mul_zero, Int.zero_emod]
  · rw [Int.mul_emod, ← emod_pow, fermat_int hk h0 hz, Int.one_pow, Int.emod_eq_of_lt (by omega : (0 : Int) ≤ 1) (by omega), Int.one_mul, Int.emod_emod]
theorem exn_back {p : Int} (hk : known p = true) : ∃ d k : Nat, (exn p).toNat * d = (p - 1).toNat * k + 1 := by
  rcases known_cases hk with rfl | rfl | rfl | rfl | rfl | rfl | rfl
  · exact ⟨11, 2, by decide⟩
  · exact ⟨77, 4, by decide⟩
  · exact ⟨77, 2, by decide⟩
  · exact ⟨171, 2, by decide⟩
  · exact ⟨7373, 3, by decide⟩
  · exact ⟨43691, 2, by decide⟩
  · exact ⟨10540996611094048183, 4, by decide +kernel⟩
theorem exponent_injective {p a b : Int} (hk : known p = true) (ha : 0 ≤ a) (hb : 0 ≤ b) : (pw p a (exn p) == pw p b (exn p)) = (rd p a == rd p b) := by
  obtain ⟨d, k, h⟩ := exn_back hk
  rw [pw, pw, rd, rd, if_pos hk, if_pos hk, if_pos hk, if_pos hk]
  rw [Bool.eq_iff_iff, beq_iff_eq, beq_iff_eq]
  constructor
  · intro he
    rw [← back_of hk ha h, he, back_of hk hb h]
  · intro he
    rw [← emod_pow a, he, emod_pow]
theorem ret_bool {a b : Bool} (h : a = b) : Ending.returned (.bool a) = .returned (.bool b) := by rw [h]
theorem exn_lo (p : Int) : 0 ≤ exn p := by unfold exn; split <;> (try split) <;> (try split) <;> (try split) <;> (try split) <;> (try split) <;> (try split) <;> omega
theorem exn_hi (p : Int) : exn p ≤ 7 := by unfold exn; split <;> (try split) <;> (try split) <;> (try split) <;> (try split) <;> (try split) <;> (try split) <;> omega

set_option maxHeartbeats 8000000 in
theorem law_exponent (n a b : Int) (hn : 0 ≤ n) (hn' : n ≤ 255) (ha : 0 ≤ a) (ha' : a ≤ 18446744073709551615) (hb : 0 ≤ b) (hb' : b ≤ 18446744073709551615) (w : World) :
    Calls Try.prog 11 #[.int .u8 n, .int .u64 a, .int .u64 b] w fun e w' => e = .returned (.bool true) ∧ Nw w.heap.size w w' := by
  obtain ⟨p, hp⟩ : ∃ p, p = prime n := ⟨_, rfl⟩
  have hk : known p = true := by rw [hp]; exact prime_known n
  have hpl := known_lo hk
  have hph := known_hi hk
  have hx0 := exn_lo p
  have hx1 := exn_hi p
  have e1 := exponent_injective hk ha hb
  have HP := Lib.hid hp
  have E1 := Lib.hid e1
  clear hp e1 hk
  go_enter Try.func11, Try.ntmps11
  go_wp2_with fail
  refine (rPrime_any n hn hn' _).mono ?_
  rintro e w1 ⟨rfl, hb1⟩
  rw [← HP.out]
  go_wp2_with fail
  have hcell : (w1.alloc (.cells #[.int .u64 p] 24)).cell? ⟨w1.heap.size, 0, none⟩ = some (.int .u64 p) := by go_simp
  go_region_held3 (fun w' => w'.cell? ⟨w1.heap.size, 0, none⟩ = some (.int .u64 p))
    (first | assumption | exact Nw.hold ‹_› ‹_›)
    (first
      | (go_at_call 12; refine (awake_any _).mono ?_; rintro e w2 ⟨rfl, hb2⟩)
      | (go_at_call 37; refine (fExponent_any _ _).mono ?_; rintro e w2 ⟨rfl, hb2⟩)
      | (go_at_call 13; refine (fReduce_any _ _ (by omega) (by omega) _).mono ?_; rintro e w2 ⟨rfl, hb2⟩)
      | (go_at_call 26; refine (fPow_any _ _ _ (by omega) (by omega) (by omega) (by omega) _).mono ?_; rintro e w2 ⟨rfl, hb2⟩))
  go_wp2
  go_ret
  exact ⟨ret_bool (by rw [E1.out]; simp), by (repeat (first | exact Nw.refl _ _ | refine Nw.drew ?_ | refine Nw.drewN ?_ _ | refine Nw.made (Nat.le_refl _) ?_ _ _ | refine Nw.next (Nat.le_refl _) ?_ (by assumption)))⟩
end Go.Proofs.Ytdgnlagoagpejaa
