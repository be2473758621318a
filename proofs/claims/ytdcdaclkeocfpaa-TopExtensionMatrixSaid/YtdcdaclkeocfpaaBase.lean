/- The walks of the small functions of package field and of its reference: what each returns; the world has at most new blocks. The walks of the products: math/bits and package field's mul; what each returns. The walks of package field's methods on two numbers: what each returns. -/
import Derived.Test.YtdcdaclkeocfpaaProg
import Derived.Test.YtdcdaclkeocfpaaMath
import Derived.WalkKit
import Derived.ProofKit
import Derived.Handy
import Derived.Laws.Bits64b
import Derived.Laws.Externs
import Derived.Lib.Hide
import Derived.Shelf.Bits.Mul64
import Derived.Shelf.Spec.BitsCarry
import Derived.Deep.RegionHeld3
import Derived.Deep.RegionWith
import Derived.BigQuiet
import Derived.Deep.QuietTactic
namespace Go.Proofs.Ytdcdaclkeocfpaa
open Go.RowKit

/-- w' is w with new blocks from B on; nothing below B has turned, and what is frozen is as it was. -/
structure Nw (B : Nat) (w w' : World) : Prop where
  b : Below B w w'
  f : ∀ a, w'.frozen? a = w.frozen? a
theorem Nw.refl (B : Nat) (w : World) : Nw B w w := ⟨Below.refl _ _, fun _ => rfl⟩
theorem Nw.trans {B : Nat} {a b c : World} (h : Nw B a b) (k : Nw B b c) : Nw B a c := ⟨h.b.trans k.b, fun x => (k.f x).trans (h.f x)⟩
theorem Nw.mono {B B' : Nat} {w w' : World} (h : Nw B w w') (hB : B' ≤ B) : Nw B' w w' := ⟨h.b.mono hB, h.f⟩
theorem Nw.alloc {B : Nat} {a w : World} (h : Nw B a w) (hB : B ≤ w.heap.size) (c : Array Value) (t : TypeId) : Nw B a (w.alloc (.cells c t)) :=
  ⟨h.b.alloc hB _, fun x => (frozen?_alloc_cells _ _ _ x).trans (h.f x)⟩
theorem Nw.drew {B : Nat} {a w : World} (h : Nw B a w) : Nw B a w.drew := ⟨h.b.drew, h.f⟩
theorem Nw.grown {w w' : World} (h : Nw w.heap.size w w') : Grown w w' := ⟨h.b.frame _, h.f, h.b.size⟩
theorem Nw.cells {W w1 : World} (h : Nw W.heap.size W w1) : (∀ b o, b < W.heap.size → w1.cell? ⟨b, o, none⟩ = W.cell? ⟨b, o, none⟩) :=
  fun b o hb => h.b.cell (p := ⟨b, o, none⟩) hb

theorem Nw.drewN {B : Nat} {a w : World} (h : Nw B a w) (n : Nat) : Nw B a (w.drewN n) := ⟨h.b.trans ⟨rfl, rfl, rfl, Nat.le_refl _, fun _ _ => rfl⟩, h.f⟩
theorem Nw.next {B : Nat} {w a b : World} (hB : B ≤ w.heap.size) (h : Nw B w a) (k : Nw a.heap.size a b) : Nw B w b := h.trans (k.mono (Nat.le_trans hB h.b.size))
theorem Nw.made {B : Nat} {w a : World} (hB : B ≤ w.heap.size) (h : Nw B w a) (c : Array Value) (t : TypeId) : Nw B w (a.alloc (.cells c t)) := h.alloc (Nat.le_trans hB h.b.size) c t
theorem Nw.hold {W w1 : World} (h : Nw W.heap.size W w1) {a : Addr} {v : Value} (hc : W.cell? a = some v) : w1.cell? a = some v :=
  (h.b.cell (World.block_lt_of_cell? W _ hc)).trans hc
/-- Is p one of the seven known primes? -/
def known (p : Int) : Bool := p == 17 || p == 97 || p == 193 || p == 257 || p == 12289 || p == 65537 || p == 18446744069414584321
theorem known_cases {p : Int} (h : known p = true) : p = 17 ∨ p = 97 ∨ p = 193 ∨ p = 257 ∨ p = 12289 ∨ p = 65537 ∨ p = 18446744069414584321 := by
  simpa [known, or_assoc] using h
theorem known_lo {p : Int} (h : known p = true) : 17 ≤ p := by have := known_cases h; omega
theorem known_hi {p : Int} (h : known p = true) : p ≤ 18446744069414584321 := by have := known_cases h; omega
theorem unknown_each {p : Int} (h : known p = false) : (p == 17) = false ∧ (p == 97) = false ∧ (p == 193) = false ∧ (p == 257) = false ∧ (p == 12289) = false ∧ (p == 65537) = false ∧ (p == 18446744069414584321) = false := by
  simpa [known, and_assoc] using h

/-! The functions that the chapter defines. -/
def rd (p n : Int) : Int := if known p then n % p else 0
def ad (p a b : Int) : Int := if known p then (a + b) % p else 0
def sb (p a b : Int) : Int := if known p then (a - b) % p else 0
def ml (p a b : Int) : Int := if known p then a * b % p else 0
def pw (p a e : Int) : Int := if known p then a ^ e.toNat % p else 0

set_option maxHeartbeats 400000 in
theorem valid_any (p : Int) (w : World) :
    Calls Try.prog 75 #[.agg #[.int .u64 p]] w fun e w' => e = .returned (.bool (known p)) ∧ Nw w.heap.size w w' := by
  by_cases h : known p = true
  · rw [h]
    rcases known_cases h with rfl | rfl | rfl | rfl | rfl | rfl | rfl
    all_goals
      clear h
      go_enter Try.func75, Try.ntmps75
      go_wp2
      go_ret
      exact ⟨rfl, (Nw.refl _ _).alloc (Nat.le_refl _) _ _⟩
  · have h : known p = false := by simpa using h
    obtain ⟨h1, h2, h3, h4, h5, h6, h7⟩ := unknown_each h
    rw [h]; clear h
    go_enter Try.func75, Try.ntmps75
    go_wp2
    go_ret
    exact ⟨rfl, (Nw.refl _ _).alloc (Nat.le_refl _) _ _⟩

set_option maxHeartbeats 400000 in
theorem reduce_small (p n : Int) (hp : 17 ≤ p) (hq : p ≤ 18446744069414584321) (hn : 0 ≤ n) (hm : n ≤ 18446744073709551615) (w : World) :
    Calls Try.prog 77 #[.agg #[.int .u64 p], .int .u64 n] w fun e w' => e = .returned (.int .u64 (n % p)) ∧ Nw w.heap.size w w' := by
  by_cases h : n < p
  · have e : n % p = n := Int.emod_eq_of_lt hn h
    have E := Lib.hid e; clear e
    go_enter Try.func77, Try.ntmps77
    go_wp2
    go_ret
    rw [E.out]
    exact ⟨rfl, (Nw.refl _ _).alloc (Nat.le_refl _) _ _⟩
  · go_enter Try.func77, Try.ntmps77
    go_wp2
    go_ret
    exact ⟨rfl, (Nw.refl _ _).alloc (Nat.le_refl _) _ _⟩

set_option maxHeartbeats 400000 in
theorem add_small (p a b : Int) (hp : 17 ≤ p) (hq : p ≤ 18446744069414584321) (ha : 0 ≤ a) (ha' : a < p) (hb : 0 ≤ b) (hb' : b < p) (w : World) :
    Calls Try.prog 107 #[.agg #[.int .u64 p], .int .u64 a, .int .u64 b] w fun e w' => e = .returned (.int .u64 ((a + b) % p)) ∧ Nw w.heap.size w w' := by
  by_cases h : p - b ≤ a
  · have e : (a + b) % p = a - (p - b) := by
      rw [show a + b = a - (p - b) + p from by omega, Int.add_emod_right]; exact Int.emod_eq_of_lt (by omega) (by omega)
    have E := Lib.hid e; clear e
    go_enter Try.func107, Try.ntmps107
    go_wp2
    go_ret
    rw [E.out]
    exact ⟨rfl, (Nw.refl _ _).alloc (Nat.le_refl _) _ _⟩
  · have e : (a + b) % p = a + b := Int.emod_eq_of_lt (by omega) (by omega)
    have E := Lib.hid e; clear e
    go_enter Try.func107, Try.ntmps107
    go_wp2
    go_ret
    rw [E.out]
    exact ⟨rfl, (Nw.refl _ _).alloc (Nat.le_refl _) _ _⟩

end Go.Proofs.Ytdcdaclkeocfpaa

namespace Go.Proofs.Ytdcdaclkeocfpaa
open Go.RowKit

theorem and_mask (a : Int) (h0 : 0 ≤ a) (h1 : a ≤ 18446744073709551615) : bits .and .u64 a 4294967295 = a % 4294967296 := by
  have h := Mul64.maskN a.toNat (by omega)
  rw [Int.toNat_of_nonneg h0] at h
  rw [h]; omega

theorem call_sub (x y d b : Int) (hx : 0 ≤ x) (hy : 0 ≤ y) (hd : d = (x + 18446744073709551616 - y) % 18446744073709551616) (hb : b = if x < y then 1 else 0) (hy' : y ≤ 18446744073709551615) (w : World) :
    (callFunc 120 #[.int .u64 x, .int .u64 y, .int .u64 0]).run Try.prog w =
      .ok (.value (.tuple #[.int .u64 d, .int .u64 b])) w := by
  obtain ⟨X, rfl⟩ := Int.eq_ofNat_of_zero_le hx
  obtain ⟨Y, rfl⟩ := Int.eq_ofNat_of_zero_le hy
  rw [run_callFunc_extern Try.func120 (by kernel_rfl) (by kernel_rfl) (by kernel_rfl) (e := sub64Entry) (by kernel_rfl)]
  have h := run_sub64 (P := Try.prog) X Y 0 (by omega) w
  rw [show ((0 : Nat) : Int) = 0 from rfl] at h
  rw [h]
  have e1 : (((X + 18446744073709551616 - Y - 0) % 18446744073709551616 : Nat) : Int) = d := by omega
  have e2 : ((if X < Y + 0 then 1 else 0 : Nat) : Int) = b := by
    rw [hb]; by_cases h : X < Y
    · rw [if_pos (by omega), if_pos (by omega)]; rfl
    · rw [if_neg (by omega), if_neg (by omega)]; rfl
  rw [e1, e2]
  rfl

theorem call_add (x y s c : Int) (hx : 0 ≤ x) (hy : 0 ≤ y) (hs : s = (x + y) % 18446744073709551616) (hc : c = (x + y) / 18446744073709551616) (w : World) :
    (callFunc 121 #[.int .u64 x, .int .u64 y, .int .u64 0]).run Try.prog w =
      .ok (.value (.tuple #[.int .u64 s, .int .u64 c])) w := by
  rw [run_callFunc_extern Try.func121 (by kernel_rfl) (by kernel_rfl) (by kernel_rfl) (e := add64Entry) (by kernel_rfl), run_add64 x y 0 hx hy (by omega) (by omega)]
  rw [Int.add_zero, ← hs, ← hc]
  rfl

set_option maxHeartbeats 1000000 in
theorem mul64_nat (x y : Nat) (hx : x < 18446744073709551616) (hy : y < 18446744073709551616) (w : World) :
    Calls Try.prog 80 #[.int .u64 x, .int .u64 y] w fun e w' => e = .returned (.tuple #[.int .u64 ((x * y / 18446744073709551616 : Nat) : Int), .int .u64 ((x * y % 18446744073709551616 : Nat) : Int)]) ∧ w = w' := by
  obtain ⟨bd, bt, bw, hhi⟩ := Lib.mul64_hi x y hx hy
  have ba := Lib.half_mul_le (a := x / 4294967296) (b := y / 4294967296) (by omega) (by omega)
  have bb := Lib.half_mul_le (a := x / 4294967296) (b := y % 4294967296) (by omega) (by omega)
  have bc := Lib.half_mul_le (a := x % 4294967296) (b := y / 4294967296) (by omega) (by omega)
  have ba' : x / 4294967296 * (y / 4294967296) < 18446744073709551616 := by omega
  have bb' : x / 4294967296 * (y % 4294967296) < 18446744073709551616 := by omega
  have bc' : x % 4294967296 * (y / 4294967296) < 18446744073709551616 := by omega
  have bh1 : x / 4294967296 * (y / 4294967296) + (x / 4294967296 * (y % 4294967296) + x % 4294967296 * (y % 4294967296) / 4294967296) / 4294967296 < 18446744073709551616 := by omega
  have bh : x / 4294967296 * (y / 4294967296) + (x / 4294967296 * (y % 4294967296) + x % 4294967296 * (y % 4294967296) / 4294967296) / 4294967296 + ((x / 4294967296 * (y % 4294967296) + x % 4294967296 * (y % 4294967296) / 4294967296) % 4294967296 + x % 4294967296 * (y / 4294967296)) / 4294967296 < 18446744073709551616 := by omega
  go_enter Try.func80, Try.ntmps80
  go_wp2
  simp only [Mul64.maskN x hx, Mul64.maskN y hy, Mul64.divN, Mul64.mulN, Mul64.addN, Mul64.wrapN _ bd, Mul64.wrapN _ bb', Mul64.wrapN _ bt, Mul64.maskN _ bt, Mul64.wrapN _ bc', Mul64.wrapN _ bw, Mul64.wrapN _ ba', Mul64.wrapN _ bh1, Mul64.wrapN _ bh, Mul64.wrapM (x * y)]
  rw [hhi]
  go_ret2
  exact ⟨rfl, rfl⟩

theorem mul64_any (x y : Int) (hx : 0 ≤ x) (hx' : x ≤ 18446744073709551615) (hy : 0 ≤ y) (hy' : y ≤ 18446744073709551615) (w : World) :
    Calls Try.prog 80 #[.int .u64 x, .int .u64 y] w fun e w' => e = .returned (.tuple #[.int .u64 (x * y / 18446744073709551616), .int .u64 (x * y % 18446744073709551616)]) ∧ w = w' := by
  obtain ⟨X, rfl⟩ := Int.eq_ofNat_of_zero_le hx
  obtain ⟨Y, rfl⟩ := Int.eq_ofNat_of_zero_le hy
  have h := mul64_nat X Y (by omega) (by omega) w
  simpa using h

theorem ret_int {k : IntKind} {a b : Int} (h : a = b) : Ending.returned (.int k a) = .returned (.int k b) := by rw [h]

set_option maxHeartbeats 1000000 in
theorem reduceBig_any (x y : Int) (hx : 0 ≤ x) (hx' : x ≤ 18446744073709551615) (hy : 0 ≤ y) (hy' : y ≤ 18446744073709551615) (w : World) :
    Calls Try.prog 106 #[.int .u64 x, .int .u64 y] w fun e w' => e = .returned (.int .u64 ((x * 18446744073709551616 + y) % 18446744069414584321)) ∧ w = w' := by
  have hand := and_mask x hx hx'
  have g0 : 0 ≤ x / 4294967296 := by omega
  have g1 : x / 4294967296 ≤ 4294967295 := by omega
  have g2 : 0 ≤ x % 4294967296 := by omega
  have g3 : x % 4294967296 ≤ 4294967295 := by omega
  by_cases h1 : y < x / 4294967296
  · have hsub := fun w => call_sub y (x / 4294967296) (y - x / 4294967296 + 18446744073709551616) 1 (by omega) (by omega) (by omega) (by rw [if_pos h1]) (by omega) w
    by_cases h2 : y - x / 4294967296 + 18446744073709551616 - 4294967295 + x % 4294967296 * 4294967295 < 18446744073709551616
    · have hadd := fun w => call_add (y - x / 4294967296 + 18446744073709551616 - 4294967295) (x % 4294967296 * 4294967295) (y - x / 4294967296 + 18446744073709551616 - 4294967295 + x % 4294967296 * 4294967295) 0 (by omega) (by omega) (by omega) (by omega) w
      by_cases h3 : 18446744069414584321 ≤ y - x / 4294967296 + 18446744073709551616 - 4294967295 + x % 4294967296 * 4294967295
      all_goals
        go_enter Try.func106, Try.ntmps106
        go_wp2_with fail
        go_ret
        exact ⟨ret_int (by omega), rfl⟩
    · have hadd := fun w => call_add (y - x / 4294967296 + 18446744073709551616 - 4294967295) (x % 4294967296 * 4294967295) (y - x / 4294967296 + 18446744073709551616 - 4294967295 + x % 4294967296 * 4294967295 - 18446744073709551616) 1 (by omega) (by omega) (by omega) (by omega) w
      by_cases h3 : 18446744069414584321 ≤ y - x / 4294967296 + 18446744073709551616 - 4294967295 + x % 4294967296 * 4294967295 - 18446744073709551616 + 4294967295
      all_goals
        go_enter Try.func106, Try.ntmps106
        go_wp2_with fail
        go_ret
        exact ⟨ret_int (by omega), rfl⟩
  · have hsub := fun w => call_sub y (x / 4294967296) (y - x / 4294967296) 0 (by omega) (by omega) (by omega) (by rw [if_neg h1]) (by omega) w
    by_cases h2 : y - x / 4294967296 + x % 4294967296 * 4294967295 < 18446744073709551616
    · have hadd := fun w => call_add (y - x / 4294967296) (x % 4294967296 * 4294967295) (y - x / 4294967296 + x % 4294967296 * 4294967295) 0 (by omega) (by omega) (by omega) (by omega) w
      by_cases h3 : 18446744069414584321 ≤ y - x / 4294967296 + x % 4294967296 * 4294967295
      all_goals
        go_enter Try.func106, Try.ntmps106
        go_wp2_with fail
        go_ret
        exact ⟨ret_int (by omega), rfl⟩
    · have hadd := fun w => call_add (y - x / 4294967296) (x % 4294967296 * 4294967295) (y - x / 4294967296 + x % 4294967296 * 4294967295 - 18446744073709551616) 1 (by omega) (by omega) (by omega) (by omega) w
      by_cases h3 : 18446744069414584321 ≤ y - x / 4294967296 + x % 4294967296 * 4294967295 - 18446744073709551616 + 4294967295
      all_goals
        go_enter Try.func106, Try.ntmps106
        go_wp2_with fail
        go_ret
        exact ⟨ret_int (by omega), rfl⟩

/-! package field's mul, for reduced numbers -/
theorem prod_lo {a b : Int} (ha : 0 ≤ a) (hb : 0 ≤ b) : 0 ≤ a * b := Int.mul_nonneg ha hb
theorem prod_hi {p a b : Int} (ha : 0 ≤ a) (ha' : a < p) (hb' : b < p) : a * b < p * p := by
  have h1 : a * b ≤ a * p := Int.mul_le_mul_of_nonneg_left (by omega) ha
  have h2 : a * p < p * p := Int.mul_lt_mul_of_pos_right ha' (by omega)
  omega

theorem known_big {p : Int} (h : known p = true) : p = 18446744069414584321 ∨ p ≤ 65537 := by have := known_cases h; omega

set_option maxHeartbeats 1000000 in
theorem mul_small (p a b : Int) (hk : known p = true) (ha : 0 ≤ a) (ha' : a < p) (hb : 0 ≤ b) (hb' : b < p) (w : World) :
    Calls Try.prog 76 #[.agg #[.int .u64 p], .int .u64 a, .int .u64 b] w fun e w' => e = .returned (.int .u64 (a * b % p)) ∧ Nw w.heap.size w w' := by
  have hpl := known_lo hk
  have hph := known_hi hk
  have hlo := prod_lo ha hb
  have hhi := prod_hi ha ha' hb'
  rcases known_big hk with rfl | hs
  · clear hk
    go_enter Try.func76, Try.ntmps76
    go_wp2_with (first
      | (go_at_call 80; refine (mul64_any _ _ (by omega) (by omega) (by omega) (by omega) _).mono ?_; rintro e w' ⟨rfl, rfl⟩)
      | (go_at_call 106; refine (reduceBig_any _ _ (by omega) (by omega) (by omega) (by omega) _).mono ?_; rintro e w' ⟨rfl, rfl⟩))
    go_ret
    exact ⟨ret_int (by omega), (Nw.refl _ _).alloc (Nat.le_refl _) _ _⟩
  · clear hk
    have hne : (p == 18446744069414584321) = false := by simp; omega
    go_enter Try.func76, Try.ntmps76
    go_wp2_with (first
      | (go_at_call 80; refine (mul64_any _ _ (by omega) (by omega) (by omega) (by omega) _).mono ?_; rintro e w' ⟨rfl, rfl⟩))
    go_ret
    have hs2 : p * p ≤ 65537 * 65537 := Int.mul_le_mul hs hs (by omega) (by omega)
    exact ⟨ret_int (by rw [Int.emod_eq_of_lt (a := a * b) (b := 18446744073709551616) (by omega) (by omega)]), (Nw.refl _ _).alloc (Nat.le_refl _) _ _⟩
end Go.Proofs.Ytdcdaclkeocfpaa

namespace Go.Proofs.Ytdcdaclkeocfpaa
open Go.RowKit

theorem red_lo {p n : Int} (hp : 17 ≤ p) : 0 ≤ n % p := Int.emod_nonneg _ (by omega)
theorem red_hi {p n : Int} (hp : 17 ≤ p) : n % p < p := Int.emod_lt_of_pos _ (by omega)

set_option maxHeartbeats 1000000 in
theorem fReduce_any (p n : Int) (hn : 0 ≤ n) (hm : n ≤ 18446744073709551615) (w : World) :
    Calls Try.prog 56 #[.agg #[.int .u64 p], .int .u64 n] w fun e w' => e = .returned (.int .u64 (rd p n)) ∧ Nw w.heap.size w w' := by
  by_cases hk : known p = true
  · have hpl := known_lo hk
    have hph := known_hi hk
    have er : rd p n = n % p := by rw [rd, if_pos hk]
    rw [er]
    have HK := Lib.hid hk
    clear er hk
    go_enter Try.func56, Try.ntmps56
    go_wp2_with (first
      | (go_at_call 75; refine (valid_any _ _).mono ?_; rintro e w1 ⟨rfl, hb1⟩; rw [HK.out]; have hc1 := hb1.cells)
      | (go_at_call 77; refine (reduce_small _ _ (by omega) (by omega) (by omega) (by omega) _).mono ?_; rintro e w2 ⟨rfl, hb2⟩))
    go_ret
    exact ⟨rfl, by (repeat (first | exact Nw.refl _ _ | refine Nw.drew ?_ | refine Nw.made (Nat.le_refl _) ?_ _ _ | refine Nw.next (Nat.le_refl _) ?_ (by assumption)))⟩
  · have er : rd p n = 0 := by rw [rd, if_neg hk]
    rw [er]
    have HK := Lib.hid (show known p = false by simpa using hk)
    clear er hk
    go_enter Try.func56, Try.ntmps56
    go_wp2_with (go_at_call 75; refine (valid_any _ _).mono ?_; rintro e w1 ⟨rfl, hb1⟩; rw [HK.out])
    go_ret
    exact ⟨rfl, by (repeat (first | exact Nw.refl _ _ | refine Nw.drew ?_ | refine Nw.made (Nat.le_refl _) ?_ _ _ | refine Nw.next (Nat.le_refl _) ?_ (by assumption)))⟩

set_option maxHeartbeats 1000000 in
theorem fAdd_any (p a b : Int) (ha : 0 ≤ a) (ha' : a ≤ 18446744073709551615) (hb : 0 ≤ b) (hb' : b ≤ 18446744073709551615) (w : World) :
    Calls Try.prog 97 #[.agg #[.int .u64 p], .int .u64 a, .int .u64 b] w fun e w' => e = .returned (.int .u64 (ad p a b)) ∧ Nw w.heap.size w w' := by
  by_cases hk : known p = true
  · have hpl := known_lo hk
    have hph := known_hi hk
    have ra := red_lo (n := a) hpl
    have ra' := red_hi (n := a) hpl
    have rb := red_lo (n := b) hpl
    have rb' := red_hi (n := b) hpl
    have er : ad p a b = (a + b) % p := by rw [ad, if_pos hk]
    rw [er]
    have HK := Lib.hid hk
    clear er hk
    go_enter Try.func97, Try.ntmps97
    go_wp2_with (first
      | (go_at_call 75; refine (valid_any _ _).mono ?_; rintro e w1 ⟨rfl, hb1⟩; rw [HK.out]; have hc1 := hb1.cells))
    have hcell : w1.cell? ⟨w.heap.size, 0, none⟩ = some (.int .u64 p) := hb1.hold (by go_simp)
    clear hc1
    go_region_held3 (fun w' => w'.cell? ⟨w.heap.size, 0, none⟩ = some (.int .u64 p))
      (first | assumption | exact Nw.hold ‹_› ‹_›)
      (first
        | (go_at_call 77; refine (reduce_small _ _ (by omega) (by omega) (by omega) (by omega) _).mono ?_; rintro e w2 ⟨rfl, hb2⟩)
        | (go_at_call 107; refine (add_small _ _ _ (by omega) (by omega) (by omega) (by omega) (by omega) (by omega) _).mono ?_; rintro e w2 ⟨rfl, hb2⟩))
    go_wp2
    go_ret
    refine ⟨ret_int (by first | rfl | exact (Int.mul_emod _ _ _).symm | simp), by (repeat (first | exact Nw.refl _ _ | refine Nw.drew ?_ | refine Nw.made (Nat.le_refl _) ?_ _ _ | refine Nw.next (Nat.le_refl _) ?_ (by assumption)))⟩
  · have er : ad p a b = 0 := by rw [ad, if_neg hk]
    rw [er]
    have HK := Lib.hid (show known p = false by simpa using hk)
    clear er hk
    go_enter Try.func97, Try.ntmps97
    go_wp2_with (go_at_call 75; refine (valid_any _ _).mono ?_; rintro e w1 ⟨rfl, hb1⟩; rw [HK.out])
    go_ret
    exact ⟨rfl, by (repeat (first | exact Nw.refl _ _ | refine Nw.drew ?_ | refine Nw.made (Nat.le_refl _) ?_ _ _ | refine Nw.next (Nat.le_refl _) ?_ (by assumption)))⟩

set_option maxHeartbeats 1000000 in
theorem fMul_any (p a b : Int) (ha : 0 ≤ a) (ha' : a ≤ 18446744073709551615) (hb : 0 ≤ b) (hb' : b ≤ 18446744073709551615) (w : World) :
    Calls Try.prog 38 #[.agg #[.int .u64 p], .int .u64 a, .int .u64 b] w fun e w' => e = .returned (.int .u64 (ml p a b)) ∧ Nw w.heap.size w w' := by
  by_cases hk : known p = true
  · have hpl := known_lo hk
    have hph := known_hi hk
    have ra := red_lo (n := a) hpl
    have ra' := red_hi (n := a) hpl
    have rb := red_lo (n := b) hpl
    have rb' := red_hi (n := b) hpl
    have er : ml p a b = a * b % p := by rw [ml, if_pos hk]
    rw [er]
    have HK := Lib.hid hk
    clear er hk
    go_enter Try.func38, Try.ntmps38
    go_wp2_with (first
      | (go_at_call 75; refine (valid_any _ _).mono ?_; rintro e w1 ⟨rfl, hb1⟩; rw [HK.out]; have hc1 := hb1.cells))
    have hcell : w1.cell? ⟨w.heap.size, 0, none⟩ = some (.int .u64 p) := hb1.hold (by go_simp)
    clear hc1
    go_region_held3 (fun w' => w'.cell? ⟨w.heap.size, 0, none⟩ = some (.int .u64 p))
      (first | assumption | exact Nw.hold ‹_› ‹_›)
      (first
        | (go_at_call 77; refine (reduce_small _ _ (by omega) (by omega) (by omega) (by omega) _).mono ?_; rintro e w2 ⟨rfl, hb2⟩)
        | (go_at_call 76; refine (mul_small _ _ _ (by exact HK.out) (by omega) (by omega) (by omega) (by omega) _).mono ?_; rintro e w2 ⟨rfl, hb2⟩))
    go_wp2
    go_ret
    refine ⟨ret_int (by first | rfl | exact (Int.mul_emod _ _ _).symm | simp), by (repeat (first | exact Nw.refl _ _ | refine Nw.drew ?_ | refine Nw.made (Nat.le_refl _) ?_ _ _ | refine Nw.next (Nat.le_refl _) ?_ (by assumption)))⟩
  · have er : ml p a b = 0 := by rw [ml, if_neg hk]
    rw [er]
    have HK := Lib.hid (show known p = false by simpa using hk)
    clear er hk
    go_enter Try.func38, Try.ntmps38
    go_wp2_with (go_at_call 75; refine (valid_any _ _).mono ?_; rintro e w1 ⟨rfl, hb1⟩; rw [HK.out])
    go_ret
    exact ⟨rfl, by (repeat (first | exact Nw.refl _ _ | refine Nw.drew ?_ | refine Nw.made (Nat.le_refl _) ?_ _ _ | refine Nw.next (Nat.le_refl _) ?_ (by assumption)))⟩


set_option maxHeartbeats 1000000 in
theorem fSub_any (p a b : Int) (ha : 0 ≤ a) (ha' : a ≤ 18446744073709551615) (hb : 0 ≤ b) (hb' : b ≤ 18446744073709551615) (w : World) :
    Calls Try.prog 88 #[.agg #[.int .u64 p], .int .u64 a, .int .u64 b] w fun e w' => e = .returned (.int .u64 (sb p a b)) ∧ Nw w.heap.size w w' := by
  by_cases hk : known p = true
  · have hpl := known_lo hk
    have hph := known_hi hk
    have ra := red_lo (n := a) hpl
    have ra' := red_hi (n := a) hpl
    have rb := red_lo (n := b) hpl
    have rb' := red_hi (n := b) hpl
    by_cases hlt : b % p ≤ a % p
    · have er : sb p a b = a % p - b % p := by rw [sb, if_pos hk, Int.sub_emod]; exact Int.emod_eq_of_lt (by omega) (by omega)
      rw [er]
      have HK := Lib.hid hk
      clear er hk
      go_enter Try.func88, Try.ntmps88
      go_wp2_with (first
        | (go_at_call 75; refine (valid_any _ _).mono ?_; rintro e w1 ⟨rfl, hb1⟩; rw [HK.out]; have hc1 := hb1.cells))
      have hcell : w1.cell? ⟨w.heap.size, 0, none⟩ = some (.int .u64 p) := hb1.hold (by go_simp)
      clear hc1
      go_region_held3 (fun w' => w'.cell? ⟨w.heap.size, 0, none⟩ = some (.int .u64 p))
        (first | assumption | exact Nw.hold ‹_› ‹_›)
        (first
          | (go_at_call 77; refine (reduce_small _ _ (by omega) (by omega) (by omega) (by omega) _).mono ?_; rintro e w2 ⟨rfl, hb2⟩))
      go_wp2
      go_ret
      exact ⟨rfl, by (repeat (first | exact Nw.refl _ _ | refine Nw.drew ?_ | refine Nw.made (Nat.le_refl _) ?_ _ _ | refine Nw.next (Nat.le_refl _) ?_ (by assumption)))⟩
    · have er : sb p a b = p - (b % p - a % p) := by
        rw [sb, if_pos hk, Int.sub_emod, show a % p - b % p = p - (b % p - a % p) - p from by omega, Int.sub_emod_right]; exact Int.emod_eq_of_lt (by omega) (by omega)
      rw [er]
      have HK := Lib.hid hk
      clear er hk
      go_enter Try.func88, Try.ntmps88
      go_wp2_with (first
        | (go_at_call 75; refine (valid_any _ _).mono ?_; rintro e w1 ⟨rfl, hb1⟩; rw [HK.out]; have hc1 := hb1.cells))
      have hcell : w1.cell? ⟨w.heap.size, 0, none⟩ = some (.int .u64 p) := hb1.hold (by go_simp)
      clear hc1
      go_region_held3 (fun w' => w'.cell? ⟨w.heap.size, 0, none⟩ = some (.int .u64 p))
        (first | assumption | exact Nw.hold ‹_› ‹_›)
        (first
          | (go_at_call 77; refine (reduce_small _ _ (by omega) (by omega) (by omega) (by omega) _).mono ?_; rintro e w2 ⟨rfl, hb2⟩))
      go_wp2
      go_ret
      exact ⟨rfl, by (repeat (first | exact Nw.refl _ _ | refine Nw.drew ?_ | refine Nw.made (Nat.le_refl _) ?_ _ _ | refine Nw.next (Nat.le_refl _) ?_ (by assumption)))⟩
  · have er : sb p a b = 0 := by rw [sb, if_neg hk]
    rw [er]
    have HK := Lib.hid (show known p = false by simpa using hk)
    clear er hk
    go_enter Try.func88, Try.ntmps88
    go_wp2_with (go_at_call 75; refine (valid_any _ _).mono ?_; rintro e w1 ⟨rfl, hb1⟩; rw [HK.out])
    go_ret
    exact ⟨rfl, by (repeat (first | exact Nw.refl _ _ | refine Nw.drew ?_ | refine Nw.made (Nat.le_refl _) ?_ _ _ | refine Nw.next (Nat.le_refl _) ?_ (by assumption)))⟩

set_option maxHeartbeats 1000000 in
theorem fNeg_any (p a : Int) (ha : 0 ≤ a) (ha' : a ≤ 18446744073709551615) (w : World) :
    Calls Try.prog 68 #[.agg #[.int .u64 p], .int .u64 a] w fun e w' => e = .returned (.int .u64 (sb p 0 a)) ∧ Nw w.heap.size w w' := by
  go_enter Try.func68, Try.ntmps68
  go_wp2_with (go_at_call 88; refine (fSub_any _ _ _ (by omega) (by omega) (by omega) (by omega) _).mono ?_; rintro e w1 ⟨rfl, hb1⟩)
  go_ret
  exact ⟨rfl, by (repeat (first | exact Nw.refl _ _ | refine Nw.drew ?_ | refine Nw.made (Nat.le_refl _) ?_ _ _ | refine Nw.next (Nat.le_refl _) ?_ (by assumption)))⟩
end Go.Proofs.Ytdcdaclkeocfpaa
