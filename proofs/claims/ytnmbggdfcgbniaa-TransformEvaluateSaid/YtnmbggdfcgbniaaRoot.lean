/- The walks of the roots of unity: package field's and the reference's. -/
import Derived.Test.YtnmbggdfcgbniaaPows
namespace Go.Proofs.Ytnmbggdfcgbniaa
open Go.RowKit

theorem ret_root {a b : Int} (h : a = b) (c : Bool) : Ending.returned (.tuple #[.int .u64 a, .bool c]) = .returned (.tuple #[.int .u64 b, .bool c]) := by rw [h]
theorem gen_lo (p : Int) : 0 ≤ gen p := by unfold gen; split <;> (try split) <;> (try split) <;> (try split) <;> (try split) <;> (try split) <;> (try split) <;> omega
theorem gen_hi (p : Int) : gen p ≤ 11 := by unfold gen; split <;> (try split) <;> (try split) <;> (try split) <;> (try split) <;> (try split) <;> (try split) <;> omega

/-- n is a power of two. -/
def P2 (n : Int) : Prop := ∃ k : Nat, n = ((2 ^ k : Nat) : Int)
theorem p2_bits {n : Int} (h1 : 1 ≤ n) (h2 : n ≤ 9223372036854775807) : bits BinOp.and IntKind.i64 n (n - 1) = 0 ↔ P2 n := by
  obtain ⟨m, rfl⟩ := Int.eq_ofNat_of_zero_le (show 0 ≤ n by omega)
  have e1 : (BitVec.ofInt 64 (m : Int)).toNat = m := by rw [BitVec.ofInt_natCast, BitVec.toNat_ofNat]; exact Nat.mod_eq_of_lt (by omega)
  have e2 : (BitVec.ofInt 64 ((m : Int) - 1)).toNat = m - 1 := by
    rw [show ((m : Int) - 1) = ((m - 1 : Nat) : Int) from by omega, BitVec.ofInt_natCast, BitVec.toNat_ofNat]; exact Nat.mod_eq_of_lt (by omega)
  have e3 : bits BinOp.and IntKind.i64 (m : Int) ((m : Int) - 1) = ((m &&& (m - 1) : Nat) : Int) := by
    show IntKind.i64.wrap ((BitVec.ofInt 64 (m : Int) &&& BitVec.ofInt 64 ((m : Int) - 1)).toNat : Int) = _
    rw [BitVec.toNat_and, e1, e2, IntKind.wrap_i64]
    have : m &&& (m - 1) ≤ m := Nat.and_le_left
    omega
  rw [e3]
  have h := @Nat.and_sub_one_eq_zero_iff_isPowerOfTwo m (by omega)
  constructor
  · intro hz
    obtain ⟨k, hk⟩ := h.1 (by omega)
    exact ⟨k, by rw [hk]⟩
  · rintro ⟨k, hk⟩
    have := h.2 ⟨k, by omega⟩
    omega
theorem p2_half {k : Int} (h2 : k % 2 = 0) : P2 k ↔ P2 (k / 2) := by
  constructor
  · rintro ⟨j, hj⟩
    cases j with
    | zero => rw [Nat.pow_zero] at hj; omega
    | succ j => exact ⟨j, by rw [Nat.pow_succ] at hj; omega⟩
  · rintro ⟨j, hj⟩
    exact ⟨j + 1, by rw [Nat.pow_succ]; omega⟩
theorem p2_odd {k : Int} (h1 : k % 2 = 1) : P2 k ↔ k = 1 := by
  constructor
  · rintro ⟨j, hj⟩
    cases j with
    | zero => rw [Nat.pow_zero] at hj; omega
    | succ j => rw [Nat.pow_succ] at hj; omega
  · rintro rfl; exact ⟨0, rfl⟩

def RootOk (p n : Int) : Prop := known p = true ∧ 1 ≤ n ∧ P2 n ∧ (p - 1) % n = 0

set_option maxHeartbeats 2000000 in
theorem fRoot_yes (p n : Int) (h : RootOk p n) (hn' : n ≤ 9223372036854775807) (w : World) :
    Calls Try.prog 42 #[.agg #[.int .u64 p], .int .i64 n] w fun en w' => en = .returned (.tuple #[.int .u64 (pw p (gen p) ((p - 1) / n)), .bool true]) ∧ Nw w.heap.size w w' := by
  obtain ⟨hk, hn, hp2, hd⟩ := h
  have hb := (p2_bits hn hn').2 hp2
  have hpl := known_lo hk
  have hph := known_hi hk
  have HK := Lib.hid hk
  clear hk
  have g1 := gen_lo p
  have g2 := gen_hi p
  have q1 : 0 ≤ (p - 1) / n := Int.ediv_nonneg (by omega) (by omega)
  have q2 : (p - 1) / n ≤ p - 1 := Int.ediv_le_self _ (by omega)
  have hz : ¬ n = 0 := by omega
  have hz0 : 0 < n := by omega
  have hz1 : (n == 0) = false := by simpa using hz
  have f1 : IntKind.u64.wrap n = n := by rw [IntKind.wrap_u64]; omega
  have f2 : IntKind.u64.wrap (p - 1) = p - 1 := by rw [IntKind.wrap_u64]; omega
  have f3 : (p - 1).tdiv n = (p - 1) / n := Int.tdiv_eq_ediv_of_nonneg (by omega)
  have hz2 : IntKind.u64.wrap ((p - 1) / n) = (p - 1) / n := by rw [IntKind.wrap_u64]; omega
  go_enter Try.func42, Try.ntmps42
  go_wp2_with (first
    | (go_at_call 37; refine (valid_any _ _).mono ?_; rintro e w1 ⟨rfl, hb1⟩; rw [HK.out]; have hc1 := hb1.cells))
  have hcell : w1.cell? ⟨w.heap.size, 0, none⟩ = some (.int .u64 p) := hb1.hold (by go_simp)
  clear hc1
  go_region_held3 (fun w' => w'.cell? ⟨w.heap.size, 0, none⟩ = some (.int .u64 p))
    (first | assumption | exact Nw.hold ‹_› ‹_›)
    (first
      | (go_at_call 53; refine (fGenerator_any _ _).mono ?_; rintro e w2 ⟨rfl, hb2⟩)
      | (go_at_call 50; refine (fPow_any _ _ _ (by omega) (by omega) (by omega) (by omega) _).mono ?_; rintro e w2 ⟨rfl, hb2⟩))
  go_wp2
  go_ret2
  exact ⟨rfl, by (repeat (first | exact Nw.refl _ _ | refine Nw.drew ?_ | refine Nw.drewN ?_ _ | refine Nw.made (Nat.le_refl _) ?_ _ _ | refine Nw.next (Nat.le_refl _) ?_ (by assumption)))⟩

set_option maxHeartbeats 2000000 in
theorem fRoot_no (p n : Int) (h : ¬ RootOk p n) (hn0 : -9223372036854775808 ≤ n) (hn' : n ≤ 9223372036854775807) (w : World) :
    Calls Try.prog 42 #[.agg #[.int .u64 p], .int .i64 n] w fun en w' => en = .returned (.tuple #[.int .u64 0, .bool false]) ∧ Nw w.heap.size w w' := by
  by_cases hk : known p = true
  · have hpl := known_lo hk
    have hph := known_hi hk
    by_cases hn : 1 ≤ n
    · by_cases hp2 : P2 n
      · have hd : ((p - 1) % n != 0) = true := by
          rw [bne_iff_ne]; exact fun hd => h ⟨hk, hn, hp2, hd⟩
        have hz : ¬ n = 0 := by omega
        have hz0 : 0 < n := by omega
        have hb := (p2_bits hn hn').2 hp2
        have HK := Lib.hid hk
        clear hk h hp2
        go_enter Try.func42, Try.ntmps42
        go_wp2_with (first
          | (go_at_call 37; refine (valid_any _ _).mono ?_; rintro e w1 ⟨rfl, hb1⟩; rw [HK.out]; have hc1 := hb1.cells))
        go_ret2
        exact ⟨rfl, by (repeat (first | exact Nw.refl _ _ | refine Nw.drew ?_ | refine Nw.drewN ?_ _ | refine Nw.made (Nat.le_refl _) ?_ _ _ | refine Nw.next (Nat.le_refl _) ?_ (by assumption)))⟩
      · have hb : (bits BinOp.and IntKind.i64 n (n - 1) != 0) = true := by
          rw [bne_iff_ne]; exact fun hz => hp2 ((p2_bits hn hn').1 hz)
        have HK := Lib.hid hk
        clear hk h hp2
        go_enter Try.func42, Try.ntmps42
        go_wp2_with (first
          | (go_at_call 37; refine (valid_any _ _).mono ?_; rintro e w1 ⟨rfl, hb1⟩; rw [HK.out]; have hc1 := hb1.cells))
        go_ret2
        exact ⟨rfl, by (repeat (first | exact Nw.refl _ _ | refine Nw.drew ?_ | refine Nw.drewN ?_ _ | refine Nw.made (Nat.le_refl _) ?_ _ _ | refine Nw.next (Nat.le_refl _) ?_ (by assumption)))⟩
    · have hlt : n < 1 := by omega
      have HK := Lib.hid hk
      clear hk h
      go_enter Try.func42, Try.ntmps42
      go_wp2_with (first
        | (go_at_call 37; refine (valid_any _ _).mono ?_; rintro e w1 ⟨rfl, hb1⟩; rw [HK.out]; have hc1 := hb1.cells))
      go_ret2
      exact ⟨rfl, by (repeat (first | exact Nw.refl _ _ | refine Nw.drew ?_ | refine Nw.drewN ?_ _ | refine Nw.made (Nat.le_refl _) ?_ _ _ | refine Nw.next (Nat.le_refl _) ?_ (by assumption)))⟩
  · have HK := Lib.hid (show known p = false by simpa using hk)
    clear hk h
    go_enter Try.func42, Try.ntmps42
    go_wp2_with (first
      | (go_at_call 37; refine (valid_any _ _).mono ?_; rintro e w1 ⟨rfl, hb1⟩; rw [HK.out]; have hc1 := hb1.cells))
    go_ret2
    exact ⟨rfl, by (repeat (first | exact Nw.refl _ _ | refine Nw.drew ?_ | refine Nw.drewN ?_ _ | refine Nw.made (Nat.le_refl _) ?_ _ _ | refine Nw.next (Nat.le_refl _) ?_ (by assumption)))⟩

set_option maxHeartbeats 4000000 in
theorem rRoot_yes (p n : Int) (h : RootOk p n) (hn' : n ≤ 9223372036854775807) (w : World) :
    Calls Try.prog 32 #[.int .u64 p, .int .i64 n] w fun en w' => en = .returned (.tuple #[.int .u64 (pw p (gen p) ((p - 1) / n)), .bool true]) ∧ Nw w.heap.size w w' := by
  obtain ⟨hk, hn, hp2, hd⟩ := h
  have hpl := known_lo hk
  have hph := known_hi hk
  have HK := Lib.hid hk
  have g1 := gen_lo p
  have g2 := gen_hi p
  have q1 : 0 ≤ (p - 1) / n := Int.ediv_nonneg (by omega) (by omega)
  have q2 : (p - 1) / n ≤ p - 1 := Int.ediv_le_self _ (by omega)
  have hz : ¬ n = 0 := by omega
  have hz0 : 0 < n := by omega
  have hz1 : (n == 0) = false := by simpa using hz
  have f1 : IntKind.u64.wrap n = n := by rw [IntKind.wrap_u64]; omega
  have f2 : IntKind.u64.wrap (p - 1) = p - 1 := by rw [IntKind.wrap_u64]; omega
  have f3 : (p - 1).tdiv n = (p - 1) / n := Int.tdiv_eq_ediv_of_nonneg (by omega)
  have hz2 : IntKind.u64.wrap ((p - 1) / n) = (p - 1) / n := by rw [IntKind.wrap_u64]; omega
  have HP := Lib.hid hp2
  clear hk hp2
  go_enter Try.func32, Try.ntmps32
  go_wp2_with (first
    | (go_at_call 22; refine (rValid_any _ _).mono ?_; rintro e w1 ⟨rfl, hb1⟩; rw [HK.out]))
  go_loop [6] (fun kv => ∃ K : Int, kv = .int .i64 K ∧ 1 ≤ K ∧ K ≤ n ∧ Hid (P2 K)) (fun kv => (intOf kv).toNat)
  case atStart => exact ⟨_, rfl, by omega, by omega, HP.out⟩
  case round =>
    obtain ⟨K, rfl, k0, k1, HI⟩ := hrel
    by_cases hev : K % 2 = 0
    · go_wp2_with fail
      exact ⟨⟨_, rfl, by omega, by omega, (p2_half hev).1 HI.out⟩, by simp [intOf]; omega⟩
    · have hodd : K % 2 = 1 := by omega
      obtain rfl : K = 1 := (p2_odd hodd).1 HI.out
      clear hodd hev
      go_wp2_with fail
      go_region_held3 (fun _ => True) (exact trivial)
        (first
          | (go_at_call 45; refine (rGenerator_any _ _).mono ?_; rintro e w2 ⟨rfl, hb2⟩)
          | (go_at_call 41; refine (rPow_any _ _ _ (by omega) (by omega) (by omega) (by omega) _).mono ?_; rintro e w2 ⟨rfl, hb2⟩))
      go_wp2
      go_ret2
      exact ⟨rfl, by (repeat (first | exact Nw.refl _ _ | refine Nw.drew ?_ | refine Nw.drewN ?_ _ | refine Nw.made (Nat.le_refl _) ?_ _ _ | refine Nw.next (Nat.le_refl _) ?_ (by assumption)))⟩

set_option maxHeartbeats 4000000 in
theorem rRoot_no (p n : Int) (h : ¬ RootOk p n) (hn0 : -9223372036854775808 ≤ n) (hn' : n ≤ 9223372036854775807) (w : World) :
    Calls Try.prog 32 #[.int .u64 p, .int .i64 n] w fun en w' => en = .returned (.tuple #[.int .u64 0, .bool false]) ∧ Nw w.heap.size w w' := by
  by_cases hk : known p = true
  · have hpl := known_lo hk
    have hph := known_hi hk
    by_cases hn : 1 ≤ n
    · have hz : ¬ n = 0 := by omega
      have hz0 : 0 < n := by omega
      by_cases hp2 : P2 n
      · have hd : ((p - 1) % n != 0) = true := by
          rw [bne_iff_ne]; exact fun hd => h ⟨hk, hn, hp2, hd⟩
        have HK := Lib.hid hk
        have HP := Lib.hid hp2
        clear hk h hp2
        go_enter Try.func32, Try.ntmps32
        go_wp2_with (first
          | (go_at_call 22; refine (rValid_any _ _).mono ?_; rintro e w1 ⟨rfl, hb1⟩; rw [HK.out]))
        go_loop [6] (fun kv => ∃ K : Int, kv = .int .i64 K ∧ 1 ≤ K ∧ K ≤ n ∧ Hid (P2 K)) (fun kv => (intOf kv).toNat)
        case atStart => exact ⟨_, rfl, by omega, by omega, HP.out⟩
        case round =>
          obtain ⟨K, rfl, k0, k1, HI⟩ := hrel
          by_cases hev : K % 2 = 0
          · go_wp2_with fail
            exact ⟨⟨_, rfl, by omega, by omega, (p2_half hev).1 HI.out⟩, by simp [intOf]; omega⟩
          · have hodd : K % 2 = 1 := by omega
            obtain rfl : K = 1 := (p2_odd hodd).1 HI.out
            clear hodd hev
            go_wp2_with fail
            go_ret2
            exact ⟨rfl, by (repeat (first | exact Nw.refl _ _ | refine Nw.drew ?_ | refine Nw.drewN ?_ _ | refine Nw.made (Nat.le_refl _) ?_ _ _ | refine Nw.next (Nat.le_refl _) ?_ (by assumption)))⟩
      · have HK := Lib.hid hk
        have HP := Lib.hid hp2
        clear hk h hp2
        go_enter Try.func32, Try.ntmps32
        go_wp2_with (first
          | (go_at_call 22; refine (rValid_any _ _).mono ?_; rintro e w1 ⟨rfl, hb1⟩; rw [HK.out]))
        go_loop [6] (fun kv => ∃ K : Int, kv = .int .i64 K ∧ 1 ≤ K ∧ K ≤ n ∧ Hid (¬ P2 K)) (fun kv => (intOf kv).toNat)
        case atStart => exact ⟨_, rfl, by omega, by omega, HP.out⟩
        case round =>
          obtain ⟨K, rfl, k0, k1, HI⟩ := hrel
          by_cases hev : K % 2 = 0
          · go_wp2_with fail
            exact ⟨⟨_, rfl, by omega, by omega, fun hc => HI.out ((p2_half hev).2 hc)⟩, by simp [intOf]; omega⟩
          · have hodd : K % 2 = 1 := by omega
            have hne : (K != 1) = true := by rw [bne_iff_ne]; exact fun hc => HI.out ((p2_odd hodd).2 hc)
            clear hev
            go_wp2_with fail
            go_ret2
            exact ⟨rfl, by (repeat (first | exact Nw.refl _ _ | refine Nw.drew ?_ | refine Nw.drewN ?_ _ | refine Nw.made (Nat.le_refl _) ?_ _ _ | refine Nw.next (Nat.le_refl _) ?_ (by assumption)))⟩
    · have hlt : n < 1 := by omega
      have HK := Lib.hid hk
      clear hk h
      go_enter Try.func32, Try.ntmps32
      go_wp2_with (first
        | (go_at_call 22; refine (rValid_any _ _).mono ?_; rintro e w1 ⟨rfl, hb1⟩; rw [HK.out]))
      go_ret2
      exact ⟨rfl, by (repeat (first | exact Nw.refl _ _ | refine Nw.drew ?_ | refine Nw.drewN ?_ _ | refine Nw.made (Nat.le_refl _) ?_ _ _ | refine Nw.next (Nat.le_refl _) ?_ (by assumption)))⟩
  · have HK := Lib.hid (show known p = false by simpa using hk)
    clear hk h
    go_enter Try.func32, Try.ntmps32
    go_wp2_with (first
      | (go_at_call 22; refine (rValid_any _ _).mono ?_; rintro e w1 ⟨rfl, hb1⟩; rw [HK.out]))
    go_ret2
    exact ⟨rfl, by (repeat (first | exact Nw.refl _ _ | refine Nw.drew ?_ | refine Nw.drewN ?_ _ | refine Nw.made (Nat.le_refl _) ?_ _ _ | refine Nw.next (Nat.le_refl _) ?_ (by assumption)))⟩
end Go.Proofs.Ytnmbggdfcgbniaa
