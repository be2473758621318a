/- The walks of the powers: package field's and the reference's. The walks of the roots of unity: package field's and the reference's. The walks of the list of primes, of the choice of a prime, of the comparison of two lists, and of the examples that each statement checks. -/
import Derived.Test.YtdcdaclkeocfpaaDivs
namespace Go.Proofs.Ytdcdaclkeocfpaa
open Go.RowKit

theorem emod_pow (x p : Int) (n : Nat) : (x % p) ^ n % p = x ^ n % p := by
  induction n with
  | zero => rw [Int.pow_zero, Int.pow_zero]
  | succ n ih => rw [Int.pow_succ, Int.pow_succ, Int.mul_emod, ih, Int.emod_emod, ← Int.mul_emod]
theorem pow_half (s : Int) (n : Nat) : s ^ n = (s * s) ^ (n / 2) * s ^ (n % 2) := by
  have h : s ^ n = s ^ (2 * (n / 2) + n % 2) := by rw [Nat.div_add_mod]
  rw [h, Int.pow_add, Int.pow_mul, Int.pow_succ, Int.pow_succ, Int.pow_zero, Int.one_mul]
theorem half_nat {E : Int} (h : 0 ≤ E) : (E / 2).toNat = E.toNat / 2 := by omega
theorem step_odd {p R S E T : Int} (h0 : 0 ≤ E) (h1 : E % 2 = 1) (h : R * S ^ E.toNat % p = T) : R * S % p * (S * S % p) ^ (E / 2).toNat % p = T := by
  have e : E.toNat % 2 = 1 := by omega
  rw [half_nat h0, Int.mul_emod, Int.emod_emod, emod_pow, ← Int.mul_emod, ← h, pow_half S E.toNat, e, Int.pow_succ, Int.pow_zero, Int.one_mul]
  congr 1
  rw [Int.mul_assoc, Int.mul_comm S]
theorem step_even {p R S E T : Int} (h0 : 0 ≤ E) (h1 : E % 2 = 0) (h : R * S ^ E.toNat % p = T) : R * (S * S % p) ^ (E / 2).toNat % p = T := by
  have e : E.toNat % 2 = 0 := by omega
  rw [half_nat h0, Int.mul_emod, emod_pow, ← Int.mul_emod, ← h, pow_half S E.toNat, e, Int.pow_zero, Int.mul_one]
theorem step_end {p R S T : Int} (h0 : 0 ≤ R) (h1 : R < p) (h : R * S ^ (0 : Int).toNat % p = T) : R = T := by
  rw [← h, show (0 : Int).toNat = 0 from rfl, Int.pow_zero, Int.mul_one, Int.emod_eq_of_lt h0 h1]
theorem and_one_u64 (E : Int) (h0 : 0 ≤ E) (h1 : E ≤ 18446744073709551615) : bits BinOp.and IntKind.u64 E 1 = E % 2 := by
  have h := bits_and_u64_nat E.toNat 1 (by omega) (by omega)
  rw [Nat.and_one_is_mod, Int.toNat_of_nonneg h0] at h
  have h2 : ((E.toNat % 2 : Nat) : Int) = E % 2 := by omega
  exact h.trans h2

set_option maxHeartbeats 2000000 in
theorem fPow_any (p a e : Int) (ha : 0 ≤ a) (ha' : a ≤ 18446744073709551615) (he : 0 ≤ e) (he' : e ≤ 18446744073709551615) (w : World) :
    Calls Try.prog 115 #[.agg #[.int .u64 p], .int .u64 a, .int .u64 e] w fun en w' => en = .returned (.int .u64 (pw p a e)) ∧ Nw w.heap.size w w' := by
  by_cases hk : known p = true
  · have hpl := known_lo hk
    have hph := known_hi hk
    have ra := red_lo (n := a) hpl
    have ra' := red_hi (n := a) hpl
    have er : pw p a e = a ^ e.toNat % p := by rw [pw, if_pos hk]
    have HK := Lib.hid hk
    rw [er]
    obtain ⟨T, hT⟩ : ∃ T : Int, T = a ^ e.toNat % p := ⟨_, rfl⟩
    rw [← hT]
    have HT := Lib.hid hT
    clear er hk hT
    go_enter Try.func115, Try.ntmps115
    go_wp2_with (first
      | (go_at_call 75; refine (valid_any _ _).mono ?_; rintro e w1 ⟨rfl, hb1⟩; rw [HK.out]; have hc1 := hb1.cells)
      | (go_at_call 77; refine (reduce_small _ _ (by omega) (by omega) (by omega) (by omega) _).mono ?_; rintro e w2 ⟨rfl, hb2⟩))
    have hcell : w2.cell? ⟨w.heap.size, 0, none⟩ = some (.int .u64 p) := hb2.hold (hb1.hold (by go_simp))
    have hnw : Nw w.heap.size w w2 := by (repeat (first | exact Nw.refl _ _ | refine Nw.drew ?_ | refine Nw.drewN ?_ _ | refine Nw.made (Nat.le_refl _) ?_ _ _ | refine Nw.next (Nat.le_refl _) ?_ (by assumption)))
    clear hc1 hb1 hb2
    go_loopw [2, 7, 8] (fun ev rv sv wr => ∃ E R S : Int, ev = .int .u64 E ∧ rv = .int .u64 R ∧ sv = .int .u64 S ∧ 0 ≤ E ∧ E ≤ 18446744073709551615 ∧ 0 ≤ R ∧ R < p ∧ 0 ≤ S ∧ S < p ∧ Hid (R * S ^ E.toNat % p = T) ∧ wr.cell? ⟨w.heap.size, 0, none⟩ = some (.int .u64 p) ∧ Nw w.heap.size w wr) (fun ev _ _ _ => (intOf ev).toNat)
    case atStart => exact ⟨_, _, _, rfl, rfl, rfl, by omega, by omega, by omega, by omega, by omega, by omega, by show _ = _; rw [Int.one_mul, emod_pow]; exact HT.out.symm, hcell, hnw⟩
    case round =>
      obtain ⟨E, R, S, rfl, rfl, rfl, hE0, hE1, hR0, hR1, hS0, hS1, HI, hcr, hnr⟩ := hrel
      clear hcell hnw
      have hand := and_one_u64 E hE0 hE1
      by_cases hpos : 0 < E
      · by_cases hodd : E % 2 = 1
        · go_wp2_with (first
            | (go_at_call 76; refine (mul_small _ _ _ HK.out (by omega) (by omega) (by omega) (by omega) _).mono ?_; rintro e w3 ⟨rfl, hb3⟩; first | (have hc3 := hb3.hold hcr) | (have hc4 := hb3.hold hc3)))
          exact ⟨⟨_, _, _, rfl, rfl, rfl, by omega, by omega, Int.emod_nonneg _ (by omega), Int.emod_lt_of_pos _ (by omega), Int.emod_nonneg _ (by omega), Int.emod_lt_of_pos _ (by omega), step_odd hE0 hodd HI.out, by assumption, by (repeat (first | exact Nw.refl _ _ | refine Nw.drew ?_ | refine Nw.drewN ?_ _ | refine Nw.made (Nat.le_refl _) ?_ _ _ | refine Nw.next (Nat.le_refl _) ?_ (by assumption)))⟩, by simp [intOf]; omega⟩
        · have heven : E % 2 = 0 := by omega
          go_wp2_with (first
            | (go_at_call 76; refine (mul_small _ _ _ HK.out (by omega) (by omega) (by omega) (by omega) _).mono ?_; rintro e w3 ⟨rfl, hb3⟩; have hc3 := hb3.hold hcr))
          exact ⟨⟨_, _, _, rfl, rfl, rfl, by omega, by omega, by omega, by omega, Int.emod_nonneg _ (by omega), Int.emod_lt_of_pos _ (by omega), step_even hE0 heven HI.out, by assumption, by (repeat (first | exact Nw.refl _ _ | refine Nw.drew ?_ | refine Nw.drewN ?_ _ | refine Nw.made (Nat.le_refl _) ?_ _ _ | refine Nw.next (Nat.le_refl _) ?_ (by assumption)))⟩, by simp [intOf]; omega⟩
      · obtain rfl : E = 0 := by omega
        go_wp2
        go_ret
        exact ⟨ret_int (step_end hR0 hR1 HI.out), hnr⟩
  · have er : pw p a e = 0 := by rw [pw, if_neg hk]
    rw [er]
    have HK := Lib.hid (show known p = false by simpa using hk)
    clear er hk
    go_enter Try.func115, Try.ntmps115
    go_wp2_with (go_at_call 75; refine (valid_any _ _).mono ?_; rintro e w1 ⟨rfl, hb1⟩; rw [HK.out])
    go_ret
    exact ⟨rfl, by (repeat (first | exact Nw.refl _ _ | refine Nw.drew ?_ | refine Nw.drewN ?_ _ | refine Nw.made (Nat.le_refl _) ?_ _ _ | refine Nw.next (Nat.le_refl _) ?_ (by assumption)))⟩

theorem ml_small {p a b : Int} (hk : known p = true) : ml p a b = a * b % p := by rw [ml, if_pos hk]

set_option maxHeartbeats 2000000 in
theorem rPow_any (p a e : Int) (ha : 0 ≤ a) (ha' : a ≤ 18446744073709551615) (he : 0 ≤ e) (he' : e ≤ 18446744073709551615) (w : World) :
    Calls Try.prog 119 #[.int .u64 p, .int .u64 a, .int .u64 e] w fun en w' => en = .returned (.int .u64 (pw p a e)) ∧ Nw w.heap.size w w' := by
  by_cases hk : known p = true
  · have hpl := known_lo hk
    have hph := known_hi hk
    have ra := red_lo (n := a) hpl
    have ra' := red_hi (n := a) hpl
    have er : pw p a e = a ^ e.toNat % p := by rw [pw, if_pos hk]
    have HK := Lib.hid hk
    rw [er]
    obtain ⟨T, hT⟩ : ∃ T : Int, T = a ^ e.toNat % p := ⟨_, rfl⟩
    rw [← hT]
    have HT := Lib.hid hT
    clear er hk hT
    go_enter Try.func119, Try.ntmps119
    go_wp2_with (first
      | (go_at_call 79; refine (rValid_any _ _).mono ?_; rintro e w1 ⟨rfl, hb1⟩; rw [HK.out]))
    have hnw : Nw w.heap.size w w1 := by (repeat (first | exact Nw.refl _ _ | refine Nw.drew ?_ | refine Nw.drewN ?_ _ | refine Nw.made (Nat.le_refl _) ?_ _ _ | refine Nw.next (Nat.le_refl _) ?_ (by assumption)))
    clear hb1
    go_loopw [1, 2, 7] (fun sv ev rv wr => ∃ E R S : Int, ev = .int .u64 E ∧ rv = .int .u64 R ∧ sv = .int .u64 S ∧ 0 ≤ E ∧ E ≤ 18446744073709551615 ∧ 0 ≤ R ∧ R < p ∧ 0 ≤ S ∧ S < p ∧ Hid (R * S ^ E.toNat % p = T) ∧ Nw w.heap.size w wr) (fun _ ev _ _ => (intOf ev).toNat)
    case atStart => exact ⟨_, _, _, rfl, rfl, rfl, by omega, by omega, by omega, by omega, by omega, by omega, by show _ = _; rw [Int.one_mul, emod_pow]; exact HT.out.symm, hnw⟩
    case round =>
      obtain ⟨E, R, S, rfl, rfl, rfl, hE0, hE1, hR0, hR1, hS0, hS1, HI, hnr⟩ := hrel
      clear hnw
      by_cases hpos : 0 < E
      · by_cases hodd : E % 2 = 1
        · go_wp2_with (first
            | (go_at_call 43; refine (rMul_any _ _ _ (by omega) (by omega) (by omega) (by omega) _).mono ?_; rintro e w3 ⟨rfl, hb3⟩; rw [ml_small HK.out]))
          exact ⟨⟨_, _, _, rfl, rfl, rfl, by omega, by omega, Int.emod_nonneg _ (by omega), Int.emod_lt_of_pos _ (by omega), Int.emod_nonneg _ (by omega), Int.emod_lt_of_pos _ (by omega), step_odd hE0 hodd HI.out, by (repeat (first | exact Nw.refl _ _ | refine Nw.drew ?_ | refine Nw.drewN ?_ _ | refine Nw.made (Nat.le_refl _) ?_ _ _ | refine Nw.next (Nat.le_refl _) ?_ (by assumption)))⟩, by simp [intOf]; omega⟩
        · have heven : E % 2 = 0 := by omega
          go_wp2_with (first
            | (go_at_call 43; refine (rMul_any _ _ _ (by omega) (by omega) (by omega) (by omega) _).mono ?_; rintro e w3 ⟨rfl, hb3⟩; rw [ml_small HK.out]))
          exact ⟨⟨_, _, _, rfl, rfl, rfl, by omega, by omega, by omega, by omega, Int.emod_nonneg _ (by omega), Int.emod_lt_of_pos _ (by omega), step_even hE0 heven HI.out, by (repeat (first | exact Nw.refl _ _ | refine Nw.drew ?_ | refine Nw.drewN ?_ _ | refine Nw.made (Nat.le_refl _) ?_ _ _ | refine Nw.next (Nat.le_refl _) ?_ (by assumption)))⟩, by simp [intOf]; omega⟩
      · obtain rfl : E = 0 := by omega
        go_wp2
        go_ret
        exact ⟨ret_int (step_end hR0 hR1 HI.out), hnr⟩
  · have er : pw p a e = 0 := by rw [pw, if_neg hk]
    rw [er]
    have HK := Lib.hid (show known p = false by simpa using hk)
    clear er hk
    go_enter Try.func119, Try.ntmps119
    go_wp2_with (go_at_call 79; refine (rValid_any _ _).mono ?_; rintro e w1 ⟨rfl, hb1⟩; rw [HK.out])
    go_ret
    exact ⟨rfl, by (repeat (first | exact Nw.refl _ _ | refine Nw.drew ?_ | refine Nw.drewN ?_ _ | refine Nw.made (Nat.le_refl _) ?_ _ _ | refine Nw.next (Nat.le_refl _) ?_ (by assumption)))⟩

theorem pw_lo {p a e : Int} : 0 ≤ pw p a e := by
  unfold pw; split
  · exact Int.emod_nonneg _ (by have := known_lo ‹_›; omega)
  · exact Int.le_refl _
theorem pw_hi {p a e : Int} : pw p a e ≤ 18446744069414584320 := by
  unfold pw; split
  · rename_i h; have := Int.emod_lt_of_pos (a ^ e.toNat) (show 0 < p by have := known_lo h; omega); have := known_hi h; omega
  · omega
/-- The inverse: the power with the exponent p - 2 (where p is not known: 0). -/
def iv (p a : Int) : Int := pw p a (p - 2)

set_option maxHeartbeats 1000000 in
theorem fInv_any (p a : Int) (hp : 0 ≤ p) (hp' : p ≤ 18446744073709551615) (ha : 0 ≤ a) (ha' : a ≤ 18446744073709551615) (w : World) :
    Calls Try.prog 87 #[.agg #[.int .u64 p], .int .u64 a] w fun en w' => en = .returned (.int .u64 (iv p a)) ∧ Nw w.heap.size w w' := by
  have wl : 0 ≤ IntKind.u64.wrap (p - 2) := by rw [IntKind.wrap_u64]; omega
  have wh : IntKind.u64.wrap (p - 2) ≤ 18446744073709551615 := by rw [IntKind.wrap_u64]; omega
  have er : iv p a = pw p a (IntKind.u64.wrap (p - 2)) := by
    unfold iv pw
    split
    · rename_i h; have := known_lo h; have := known_hi h
      congr 3; rw [IntKind.wrap_u64]; omega
    · rfl
  rw [er]
  clear er
  go_enter Try.func87, Try.ntmps87
  go_wp2_with (go_at_call 115; refine (fPow_any _ _ _ (by omega) (by omega) (by omega) (by omega) _).mono ?_; rintro e w1 ⟨rfl, hb1⟩)
  go_ret
  exact ⟨rfl, by (repeat (first | exact Nw.refl _ _ | refine Nw.drew ?_ | refine Nw.drewN ?_ _ | refine Nw.made (Nat.le_refl _) ?_ _ _ | refine Nw.next (Nat.le_refl _) ?_ (by assumption)))⟩

theorem iv_lo {p a : Int} : 0 ≤ iv p a := pw_lo
theorem iv_hi {p a : Int} : iv p a ≤ 18446744069414584320 := pw_hi

set_option maxHeartbeats 1000000 in
theorem fDiv_any (p a b : Int) (hp : 0 ≤ p) (hp' : p ≤ 18446744073709551615) (ha : 0 ≤ a) (ha' : a ≤ 18446744073709551615) (hb : 0 ≤ b) (hb' : b ≤ 18446744073709551615) (w : World) :
    Calls Try.prog 90 #[.agg #[.int .u64 p], .int .u64 a, .int .u64 b] w fun en w' => en = .returned (.int .u64 (ml p a (iv p b))) ∧ Nw w.heap.size w w' := by
  have hil := @iv_lo p b
  have hih := @iv_hi p b
  go_enter Try.func90, Try.ntmps90
  go_wp2
  have hcell : (w.alloc (.cells #[.int .u64 p] 27)).cell? ⟨w.heap.size, 0, none⟩ = some (.int .u64 p) := by go_simp
  go_region_held3 (fun w' => w'.cell? ⟨w.heap.size, 0, none⟩ = some (.int .u64 p))
    (first | assumption | exact Nw.hold ‹_› ‹_›)
    (first
      | (go_at_call 87; refine (fInv_any _ _ (by omega) (by omega) (by omega) (by omega) _).mono ?_; rintro e w2 ⟨rfl, hb2⟩)
      | (go_at_call 38; refine (fMul_any _ _ _ (by omega) (by omega) (by omega) (by omega) _).mono ?_; rintro e w2 ⟨rfl, hb2⟩))
  go_wp2
  go_ret
  exact ⟨rfl, by (repeat (first | exact Nw.refl _ _ | refine Nw.drew ?_ | refine Nw.drewN ?_ _ | refine Nw.made (Nat.le_refl _) ?_ _ _ | refine Nw.next (Nat.le_refl _) ?_ (by assumption)))⟩
end Go.Proofs.Ytdcdaclkeocfpaa

namespace Go.Proofs.Ytdcdaclkeocfpaa
open Go.RowKit

theorem ret_root {a b : Int} (h : a = b) (c : Bool) : Ending.returned (.tuple #[.int .u64 a, .bool c]) = .returned (.tuple #[.int .u64 b, .bool c]) := by rw [h]
theorem gen_lo (p : Int) : 0 ≤ gen p := by unfold gen; split <;> (try split) <;> (try split) <;> (try split) <;> (try split) <;> (try split) <;> (try split) <;> omega
theorem gen_hi (p : Int) : gen p ≤ 11 := by unfold gen; split <;> (try split) <;> (try split) <;> (try split) <;> (try split) <;> (try split) <;> (try split) <;> omega

/-- n is a power of two. -/
def P2 (n : Int) : Prop := ∃ k : Nat, n = ((2 ^ k : Nat) : Int)
theorem p2_bits {n : Int} (h1 : 1 ≤ n) (h2 : n ≤ 9223372036854775807) : bits BinOp.and IntKind.i64 n (n - 1) = 0 ↔ P2 n := by
  obtain ⟨m, rfl⟩ := Int.eq_ofNat_of_zero_le (show 0 ≤ n by omega)
  have e1 : (BitVec.ofInt 64 (m : Int)).toNat = m := by rw [BitVec.ofInt_natCast, BitVec.toNat_ofNat]; exact Nat.mod_eq_of_lt (by omega)
  have e2 : (BitVec.ofInt 64 ((m : Int) - 1)).toNat = m - 1 := by
    rw [show ((m : Int) - 1) = ((m - 1 : Nat) : Int) from by omega, BitVec.ofInt_natCast, BitVec.toNat_ofNat]; exact Nat.mod_eq_of_lt (by omega)
  have e3 : bits BinOp.and IntKind.i64 (m : Int) ((m : Int) - 1) = ((m &&& (m - 1) : Nat) : Int) := by
    show IntKind.i64.wrap ((BitVec.ofInt 64 (m : Int) &&& BitVec.ofInt 64 ((m : Int) - 1)).toNat : Int) = _
    rw [BitVec.toNat_and, e1, e2, IntKind.wrap_i64]
    have : m &&& (m - 1) ≤ m := Nat.and_le_left
    omega
  rw [e3]
  have h := @Nat.and_sub_one_eq_zero_iff_isPowerOfTwo m (by omega)
  constructor
  · intro hz
    obtain ⟨k, hk⟩ := h.1 (by omega)
    exact ⟨k, by rw [hk]⟩
  · rintro ⟨k, hk⟩
    have := h.2 ⟨k, by omega⟩
    omega
theorem p2_half {k : Int} (h2 : k % 2 = 0) : P2 k ↔ P2 (k / 2) := by
  constructor
  · rintro ⟨j, hj⟩
    cases j with
    | zero => rw [Nat.pow_zero] at hj; omega
    | succ j => exact ⟨j, by rw [Nat.pow_succ] at hj; omega⟩
  · rintro ⟨j, hj⟩
    exact ⟨j + 1, by rw [Nat.pow_succ]; omega⟩
theorem p2_odd {k : Int} (h1 : k % 2 = 1) : P2 k ↔ k = 1 := by
  constructor
  · rintro ⟨j, hj⟩
    cases j with
    | zero => rw [Nat.pow_zero] at hj; omega
    | succ j => rw [Nat.pow_succ] at hj; omega
  · rintro rfl; exact ⟨0, rfl⟩

def RootOk (p n : Int) : Prop := known p = true ∧ 1 ≤ n ∧ P2 n ∧ (p - 1) % n = 0

set_option maxHeartbeats 2000000 in
theorem fRoot_yes (p n : Int) (h : RootOk p n) (hn' : n ≤ 9223372036854775807) (w : World) :
    Calls Try.prog 112 #[.agg #[.int .u64 p], .int .i64 n] w fun en w' => en = .returned (.tuple #[.int .u64 (pw p (gen p) ((p - 1) / n)), .bool true]) ∧ Nw w.heap.size w w' := by
  obtain ⟨hk, hn, hp2, hd⟩ := h
  have hb := (p2_bits hn hn').2 hp2
  have hpl := known_lo hk
  have hph := known_hi hk
  have HK := Lib.hid hk
  clear hk
  have g1 := gen_lo p
  have g2 := gen_hi p
  have q1 : 0 ≤ (p - 1) / n := Int.ediv_nonneg (by omega) (by omega)
  have q2 : (p - 1) / n ≤ p - 1 := Int.ediv_le_self _ (by omega)
  have hz : ¬ n = 0 := by omega
  have hz0 : 0 < n := by omega
  have hz1 : (n == 0) = false := by simpa using hz
  have f1 : IntKind.u64.wrap n = n := by rw [IntKind.wrap_u64]; omega
  have f2 : IntKind.u64.wrap (p - 1) = p - 1 := by rw [IntKind.wrap_u64]; omega
  have f3 : (p - 1).tdiv n = (p - 1) / n := Int.tdiv_eq_ediv_of_nonneg (by omega)
  have hz2 : IntKind.u64.wrap ((p - 1) / n) = (p - 1) / n := by rw [IntKind.wrap_u64]; omega
  go_enter Try.func112, Try.ntmps112
  go_wp2_with (first
    | (go_at_call 75; refine (valid_any _ _).mono ?_; rintro e w1 ⟨rfl, hb1⟩; rw [HK.out]; have hc1 := hb1.cells))
  have hcell : w1.cell? ⟨w.heap.size, 0, none⟩ = some (.int .u64 p) := hb1.hold (by go_simp)
  clear hc1
  go_region_held3 (fun w' => w'.cell? ⟨w.heap.size, 0, none⟩ = some (.int .u64 p))
    (first | assumption | exact Nw.hold ‹_› ‹_›)
    (first
      | (go_at_call 57; refine (fGenerator_any _ _).mono ?_; rintro e w2 ⟨rfl, hb2⟩)
      | (go_at_call 115; refine (fPow_any _ _ _ (by omega) (by omega) (by omega) (by omega) _).mono ?_; rintro e w2 ⟨rfl, hb2⟩))
  go_wp2
  go_ret2
  exact ⟨rfl, by (repeat (first | exact Nw.refl _ _ | refine Nw.drew ?_ | refine Nw.drewN ?_ _ | refine Nw.made (Nat.le_refl _) ?_ _ _ | refine Nw.next (Nat.le_refl _) ?_ (by assumption)))⟩

set_option maxHeartbeats 2000000 in
theorem fRoot_no (p n : Int) (h : ¬ RootOk p n) (hn0 : -9223372036854775808 ≤ n) (hn' : n ≤ 9223372036854775807) (w : World) :
    Calls Try.prog 112 #[.agg #[.int .u64 p], .int .i64 n] w fun en w' => en = .returned (.tuple #[.int .u64 0, .bool false]) ∧ Nw w.heap.size w w' := by
  by_cases hk : known p = true
  · have hpl := known_lo hk
    have hph := known_hi hk
    by_cases hn : 1 ≤ n
    · by_cases hp2 : P2 n
      · have hd : ((p - 1) % n != 0) = true := by
          rw [bne_iff_ne]; exact fun hd => h ⟨hk, hn, hp2, hd⟩
        have hz : ¬ n = 0 := by omega
        have hz0 : 0 < n := by omega
        have hb := (p2_bits hn hn').2 hp2
        have HK := Lib.hid hk
        clear hk h hp2
        go_enter Try.func112, Try.ntmps112
        go_wp2_with (first
          | (go_at_call 75; refine (valid_any _ _).mono ?_; rintro e w1 ⟨rfl, hb1⟩; rw [HK.out]; have hc1 := hb1.cells))
        go_ret2
        exact ⟨rfl, by (repeat (first | exact Nw.refl _ _ | refine Nw.drew ?_ | refine Nw.drewN ?_ _ | refine Nw.made (Nat.le_refl _) ?_ _ _ | refine Nw.next (Nat.le_refl _) ?_ (by assumption)))⟩
      · have hb : (bits BinOp.and IntKind.i64 n (n - 1) != 0) = true := by
          rw [bne_iff_ne]; exact fun hz => hp2 ((p2_bits hn hn').1 hz)
        have HK := Lib.hid hk
        clear hk h hp2
        go_enter Try.func112, Try.ntmps112
        go_wp2_with (first
          | (go_at_call 75; refine (valid_any _ _).mono ?_; rintro e w1 ⟨rfl, hb1⟩; rw [HK.out]; have hc1 := hb1.cells))
        go_ret2
        exact ⟨rfl, by (repeat (first | exact Nw.refl _ _ | refine Nw.drew ?_ | refine Nw.drewN ?_ _ | refine Nw.made (Nat.le_refl _) ?_ _ _ | refine Nw.next (Nat.le_refl _) ?_ (by assumption)))⟩
    · have hlt : n < 1 := by omega
      have HK := Lib.hid hk
      clear hk h
      go_enter Try.func112, Try.ntmps112
      go_wp2_with (first
        | (go_at_call 75; refine (valid_any _ _).mono ?_; rintro e w1 ⟨rfl, hb1⟩; rw [HK.out]; have hc1 := hb1.cells))
      go_ret2
      exact ⟨rfl, by (repeat (first | exact Nw.refl _ _ | refine Nw.drew ?_ | refine Nw.drewN ?_ _ | refine Nw.made (Nat.le_refl _) ?_ _ _ | refine Nw.next (Nat.le_refl _) ?_ (by assumption)))⟩
  · have HK := Lib.hid (show known p = false by simpa using hk)
    clear hk h
    go_enter Try.func112, Try.ntmps112
    go_wp2_with (first
      | (go_at_call 75; refine (valid_any _ _).mono ?_; rintro e w1 ⟨rfl, hb1⟩; rw [HK.out]; have hc1 := hb1.cells))
    go_ret2
    exact ⟨rfl, by (repeat (first | exact Nw.refl _ _ | refine Nw.drew ?_ | refine Nw.drewN ?_ _ | refine Nw.made (Nat.le_refl _) ?_ _ _ | refine Nw.next (Nat.le_refl _) ?_ (by assumption)))⟩

end Go.Proofs.Ytdcdaclkeocfpaa

namespace Go.Proofs.Ytdcdaclkeocfpaa
open Go.RowKit

theorem ex_root : RootOk 17 4 := ⟨by decide, by decide, ⟨2, rfl⟩, by decide⟩

/-- The prime that the reference selects for a number. -/
def prime (n : Int) : Int := if n % 7 == 0 then 17 else if n % 7 == 1 then 97 else if n % 7 == 2 then 193 else if n % 7 == 3 then 257 else if n % 7 == 4 then 12289 else if n % 7 == 5 then 65537 else 18446744069414584321
theorem prime_known (n : Int) : known (prime n) = true := by
  unfold prime
  repeat' split
  all_goals decide

def sevenPrimes : Array Value := #[.int .u64 17, .int .u64 97, .int .u64 193, .int .u64 257, .int .u64 12289, .int .u64 65537, .int .u64 18446744069414584321]

set_option maxHeartbeats 2000000 in
theorem rKnown_any (w : World) : Calls Try.prog 73 #[] w fun e w' => e = .returned (.slice (some ⟨w.heap.size, 0, none⟩) 7 7) ∧ w.alloc (.cells sevenPrimes 22) = w' := by
  go_enter Try.func73, Try.ntmps73
  go_wp2
  go_ret
  exact ⟨rfl, rfl⟩

set_option maxHeartbeats 2000000 in
theorem rPrime_any (n : Int) (h0 : 0 ≤ n) (h1 : n ≤ 255) (w : World) : Calls Try.prog 35 #[.int .u8 n] w fun e w' => e = .returned (.int .u64 (prime n)) ∧ Nw w.heap.size w w' := by
  have hc : n % 7 = 0 ∨ n % 7 = 1 ∨ n % 7 = 2 ∨ n % 7 = 3 ∨ n % 7 = 4 ∨ n % 7 = 5 ∨ n % 7 = 6 := by omega
  rcases hc with h | h | h | h | h | h | h
  all_goals
    go_enter Try.func35, Try.ntmps35
    go_wp2_with (go_at_call 73; refine (rKnown_any _).mono ?_; rintro e w' ⟨rfl, rfl⟩; unfold sevenPrimes)
    go_ret
    exact ⟨ret_int (by unfold prime; rw [h]; decide), by (repeat (first | exact Nw.refl _ _ | refine Nw.drew ?_ | refine Nw.drewN ?_ _ | refine Nw.made (Nat.le_refl _) ?_ _ _ | refine Nw.next (Nat.le_refl _) ?_ (by assumption)))⟩
end Go.Proofs.Ytdcdaclkeocfpaa
