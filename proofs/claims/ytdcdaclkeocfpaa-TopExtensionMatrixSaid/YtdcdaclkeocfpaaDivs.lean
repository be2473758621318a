/- The walk of math/bits Div64 where the divisor is the big prime, or the high word is 0. -/
import Derived.Test.YtdcdaclkeocfpaaRef
namespace Go.Proofs.Ytdcdaclkeocfpaa
open Go.RowKit

set_option maxRecDepth 100000 in
theorem lz_big (w : World) : Calls Try.prog 109 #[.int .u64 18446744069414584321] w fun e w' => e = .returned (.int .i64 0) ∧ w = w' := by
  go_enter Try.func109, Try.ntmps109
  go_wp2
  go_ret
  exact ⟨ret_int (by kernel_rfl), rfl⟩

theorem ret_pair {k l : IntKind} {a b c d : Int} (h : a = b) (h' : c = d) : Ending.returned (.tuple #[.int k a, .int l c]) = .returned (.tuple #[.int k b, .int l d]) := by rw [h, h']

theorem or_zero (a : Int) (h0 : 0 ≤ a) (h1 : a ≤ 18446744073709551615) : bits .or .u64 a 0 = a := by
  have h := bits_or_u64_nat a.toNat 0 (by omega) (by omega)
  rw [Nat.or_zero, Int.toNat_of_nonneg h0] at h
  exact h

set_option maxHeartbeats 1000000 in
theorem div_low (lo y : Int) (hl : 0 ≤ lo) (hl' : lo ≤ 18446744073709551615) (hy : 0 < y) (hy' : y ≤ 18446744073709551615) (w : World) :
    Calls Try.prog 81 #[.int .u64 0, .int .u64 lo, .int .u64 y] w fun e w' => e = .returned (.tuple #[.int .u64 (lo / y), .int .u64 (lo % y)]) ∧ Nw w.heap.size w w' := by
  have h0 : (y == 0) = false := by simp; omega
  go_enter Try.func81, Try.ntmps81
  go_wp2
  go_quiet (fail)
  go_wp2
  go_ret2
  exact ⟨rfl, by (repeat (first | exact Nw.refl _ _ | refine Nw.drew ?_ | refine Nw.drewN ?_ _ | refine Nw.made (Nat.le_refl _) ?_ _ _ | refine Nw.next (Nat.le_refl _) ?_ (by assumption)))⟩

set_option maxHeartbeats 2000000 in
theorem div_big (hi lo : Int) (hh : 0 < hi) (hh' : hi < 18446744069414584321) (hl : 0 ≤ lo) (hl' : lo ≤ 18446744073709551615) (w : World) :
    Calls Try.prog 81 #[.int .u64 hi, .int .u64 lo, .int .u64 18446744069414584321] w fun e w' => (∃ q, e = .returned (.tuple #[.int .u64 q, .int .u64 ((hi * 18446744073709551616 + lo) % 18446744069414584321)])) ∧ w = w' := by
  have h0 : (hi == 0) = false := by simp; omega
  have e1 : bits BinOp.and IntKind.u64 18446744069414584321 4294967295 = 1 := and_mask _ (by omega) (by omega)
  have e2 : bits BinOp.and IntKind.u64 lo 4294967295 = lo % 4294967296 := and_mask _ hl hl'
  have e3 : lo / 18446744073709551616 = 0 := by omega
  have e4 : bits BinOp.or IntKind.u64 hi 0 = hi := or_zero _ (by omega) (by omega)
  have e5 : IntKind.u64.wrap (hi / 4294967295) = hi / 4294967295 := by rw [IntKind.wrap_u64]; omega
  have e6 : IntKind.u64.wrap (hi - hi / 4294967295 * 4294967295) = hi % 4294967295 := by rw [IntKind.wrap_u64]; omega
  have e7 : hi - hi / 4294967295 * 4294967295 = hi % 4294967295 := by omega
  have b1 : 0 ≤ hi / 4294967295 := by omega
  have b2 : hi / 4294967295 ≤ 4294967296 := by omega
  have b3 : hi / 4294967295 * 4294967295 ≤ hi := by omega
  have b4 : 0 ≤ lo / 4294967296 := by omega
  have b5 : lo / 4294967296 ≤ 4294967295 := by omega
  have b6 : 0 ≤ lo % 4294967296 := by omega
  have b7 : lo % 4294967296 ≤ 4294967295 := by omega
  go_enter Try.func81, Try.ntmps81
  go_wp2_with (go_at_call 109; refine (lz_big _).mono ?_; rintro e w' ⟨rfl, rfl⟩)
  go_loop [15, 16] (fun q r => ∃ Q R : Int, q = .int .u64 Q ∧ r = .int .u64 R ∧ 0 ≤ Q ∧ Q ≤ 4294967296 ∧ 0 ≤ R ∧ R ≤ 4294967295 ∧ Hid (hi = Q * 4294967295 + R) ∧ (R ≤ 4294967294 ∨ lo / 4294967296 ≤ Q)) (fun q _ => (intOf q).toNat)
  case atStart => exact ⟨_, _, rfl, rfl, by omega, by omega, by omega, by omega, by show _ = _; omega, by omega⟩
  case round =>
    obtain ⟨Q, R, rfl, rfl, q0, q1, r0, r1, HE, hor⟩ := hrel
    by_cases c1 : 4294967296 ≤ Q
    · have hR : R = 0 := by have := HE.out; omega
      subst hR
      clear hor
      go_wp2_with fail
      exact ⟨⟨Q - 1, 4294967295, rfl, rfl, by omega, by omega, by omega, by omega, by show _ = _; have := HE.out; omega, by omega⟩, by simp [intOf]; omega⟩
    · by_cases c2 : R * 4294967296 + lo / 4294967296 < Q
      · have hR : R = 0 := by omega
        subst hR
        clear hor
        go_wp2_with fail
        exact ⟨⟨Q - 1, 4294967295, rfl, rfl, by omega, by omega, by omega, by omega, by show _ = _; have := HE.out; omega, by omega⟩, by simp [intOf]; omega⟩
      · obtain ⟨X, hX⟩ : ∃ X : Int, X = R * 4294967296 + lo / 4294967296 - Q := ⟨_, rfl⟩
        have x0 : 0 ≤ X := by omega
        have x1 : X < 18446744069414584321 := by omega
        have e8 : IntKind.u64.wrap (IntKind.u64.wrap (IntKind.u64.wrap (hi * 4294967296) + lo / 4294967296) - IntKind.u64.wrap (Q * 18446744069414584321)) = X := by
          have := HE.out
          simp only [IntKind.wrap_u64]; omega
        have e9 : X - X / 4294967295 * 4294967295 = X % 4294967295 := by omega
        have d1 : 0 ≤ X / 4294967295 := by omega
        have d2 : X / 4294967295 ≤ 4294967296 := by omega
        have d3 : X / 4294967295 * 4294967295 ≤ X := by omega
        have HX := Lib.hid hX
        clear hX
        go_wp2_with fail
        go_loop [18, 16] (fun q r => ∃ Q R : Int, q = .int .u64 Q ∧ r = .int .u64 R ∧ 0 ≤ Q ∧ Q ≤ 4294967296 ∧ 0 ≤ R ∧ R ≤ 4294967295 ∧ Hid (X = Q * 4294967295 + R) ∧ (R ≤ 4294967294 ∨ lo % 4294967296 ≤ Q)) (fun q _ => (intOf q).toNat)
        case atStart => exact ⟨_, _, rfl, rfl, by omega, by omega, by omega, by omega, by show _ = _; omega, by omega⟩
        case round =>
          obtain ⟨Q', R', rfl, rfl, q0', q1', r0', r1', HE', hor'⟩ := hrel
          by_cases c1' : 4294967296 ≤ Q'
          · have hR : R' = 0 := by have := HE'.out; omega
            subst hR
            clear hor'
            go_wp2_with fail
            exact ⟨⟨Q' - 1, 4294967295, rfl, rfl, by omega, by omega, by omega, by omega, by show _ = _; have := HE'.out; omega, by omega⟩, by simp [intOf]; omega⟩
          · by_cases c2' : R' * 4294967296 + lo % 4294967296 < Q'
            · have hR : R' = 0 := by omega
              subst hR
              clear hor'
              go_wp2_with fail
              exact ⟨⟨Q' - 1, 4294967295, rfl, rfl, by omega, by omega, by omega, by omega, by show _ = _; have := HE'.out; omega, by omega⟩, by simp [intOf]; omega⟩
            · go_wp2_with fail
              go_ret2
              refine ⟨⟨_, ret_pair rfl ?_⟩, rfl⟩
              have h1 := HE.out
              have h2 := HX.out
              have h3 := HE'.out
              simp only [IntKind.wrap_u64]
              omega

/-- What both ways come to: the rest of the product of two reduced numbers, for a known prime. -/
def SomeQ (r : Int) (B : Nat) (w : World) (e : Ending) (w' : World) : Prop := ∃ q : Int, e = .returned (.tuple #[.int .u64 q, .int .u64 r]) ∧ Nw B w w'
theorem div_any (p h l : Int) (hk : known p = true) (hl : 0 ≤ l) (hl' : l ≤ 18446744073709551615) (hh : 0 ≤ h) (hh' : h * 18446744073709551616 + l < p * p) (w : World) :
    Calls Try.prog 81 #[.int .u64 h, .int .u64 l, .int .u64 p] w (SomeQ ((h * 18446744073709551616 + l) % p) w.heap.size w) := by
  have hpl := known_lo hk
  by_cases hz : h = 0
  · subst hz
    refine (div_low l p hl hl' (by omega) (by have := known_hi hk; omega) w).mono ?_
    rintro e w' ⟨rfl, hb⟩
    exact ⟨_, by rw [Int.zero_mul, Int.zero_add], hb⟩
  · rcases known_big hk with rfl | hs
    · refine (div_big h l (by omega) (by omega) hl hl' w).mono ?_
      rintro e w' ⟨⟨q, rfl⟩, rfl⟩
      exact ⟨q, rfl, Nw.refl _ _⟩
    · exfalso
      have hs2 : p * p ≤ 65537 * 65537 := Int.mul_le_mul hs hs (by omega) (by omega)
      omega

set_option maxHeartbeats 1000000 in
theorem rMul_any (p a b : Int) (ha : 0 ≤ a) (ha' : a ≤ 18446744073709551615) (hb : 0 ≤ b) (hb' : b ≤ 18446744073709551615) (w : World) :
    Calls Try.prog 43 #[.int .u64 p, .int .u64 a, .int .u64 b] w fun e w' => e = .returned (.int .u64 (ml p a b)) ∧ Nw w.heap.size w w' := by
  by_cases hk : known p = true
  · have hpl := known_lo hk
    have hph := known_hi hk
    have ra := red_lo (n := a) hpl
    have ra' := red_hi (n := a) hpl
    have rb := red_lo (n := b) hpl
    have rb' := red_hi (n := b) hpl
    have hlo := prod_lo ra rb
    have hhi := prod_hi ra ra' rb'
    have hp2 : p * p ≤ 18446744069414584321 * 18446744069414584321 := Int.mul_le_mul hph hph (by omega) (by omega)
    have hp1 : 0 < p := by omega
    have er : ml p a b = (a % p * (b % p) / 18446744073709551616 * 18446744073709551616 + a % p * (b % p) % 18446744073709551616) % p := by
      rw [ml, if_pos hk, Int.mul_emod]; congr 1; omega
    rw [er]
    have HK := Lib.hid hk
    have HL := Lib.hid hlo
    have HH := Lib.hid hhi
    have HP := Lib.hid hp2
    clear er hk hlo hhi hp2
    go_enter Try.func43, Try.ntmps43
    go_wp2_with (go_at_call 79; refine (rValid_any _ _).mono ?_; rintro e w1 ⟨rfl, hb1⟩; rw [HK.out])
    go_quiet ((go_at_call 80; exact Calls.quiet_of_same ((mul64_any _ _ (by omega) (by omega) (by omega) (by omega) _).mono fun _ _ h => ⟨h.1, h.2.symm⟩)))
    have hlo := HL.out
    have hhi := HH.out
    have hp2 := HP.out
    go_wp2_with (go_at_call 81; refine (div_any _ _ _ HK.out (by omega) (by omega) (by omega) (by omega) _).mono ?_; rintro e w2 ⟨q, rfl, hb2⟩)
    go_ret
    exact ⟨rfl, by (repeat (first | exact Nw.refl _ _ | refine Nw.drew ?_ | refine Nw.drewN ?_ _ | refine Nw.made (Nat.le_refl _) ?_ _ _ | refine Nw.next (Nat.le_refl _) ?_ (by assumption)))⟩
  · have er : ml p a b = 0 := by rw [ml, if_neg hk]
    rw [er]
    have HK := Lib.hid (show known p = false by simpa using hk)
    clear er hk
    go_enter Try.func43, Try.ntmps43
    go_wp2_with (go_at_call 79; refine (rValid_any _ _).mono ?_; rintro e w1 ⟨rfl, hb1⟩; rw [HK.out])
    go_ret
    exact ⟨rfl, by (repeat (first | exact Nw.refl _ _ | refine Nw.drew ?_ | refine Nw.drewN ?_ _ | refine Nw.made (Nat.le_refl _) ?_ _ _ | refine Nw.next (Nat.le_refl _) ?_ (by assumption)))⟩
end Go.Proofs.Ytdcdaclkeocfpaa
