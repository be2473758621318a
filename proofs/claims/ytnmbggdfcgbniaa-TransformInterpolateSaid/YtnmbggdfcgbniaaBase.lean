/- The walks of the small functions of package field and of its reference: what each returns; the world has at most new blocks. -/
import Derived.Test.YtnmbggdfcgbniaaProg
import Derived.Test.YtnmbggdfcgbniaaMath
import Derived.WalkKit
import Derived.ProofKit
import Derived.Handy
import Derived.Laws.Bits64b
import Derived.Laws.Externs
import Derived.Lib.Hide
import Derived.Shelf.Bits.Mul64
import Derived.Shelf.Spec.BitsCarry
import Derived.Deep.RegionHeld3
import Derived.Deep.RegionWith
import Derived.BigQuiet
import Derived.Deep.QuietTactic
namespace Go.Proofs.Ytnmbggdfcgbniaa
open Go.RowKit

/-- w' is w with new blocks from B on; nothing below B has turned, and what is frozen is as it was. -/
structure Nw (B : Nat) (w w' : World) : Prop where
  b : Below B w w'
  f : ∀ a, w'.frozen? a = w.frozen? a
theorem Nw.refl (B : Nat) (w : World) : Nw B w w := ⟨Below.refl _ _, fun _ => rfl⟩
theorem Nw.trans {B : Nat} {a b c : World} (h : Nw B a b) (k : Nw B b c) : Nw B a c := ⟨h.b.trans k.b, fun x => (k.f x).trans (h.f x)⟩
theorem Nw.mono {B B' : Nat} {w w' : World} (h : Nw B w w') (hB : B' ≤ B) : Nw B' w w' := ⟨h.b.mono hB, h.f⟩
theorem Nw.alloc {B : Nat} {a w : World} (h : Nw B a w) (hB : B ≤ w.heap.size) (c : Array Value) (t : TypeId) : Nw B a (w.alloc (.cells c t)) :=
  ⟨h.b.alloc hB _, fun x => (frozen?_alloc_cells _ _ _ x).trans (h.f x)⟩
theorem Nw.drew {B : Nat} {a w : World} (h : Nw B a w) : Nw B a w.drew := ⟨h.b.drew, h.f⟩
theorem Nw.grown {w w' : World} (h : Nw w.heap.size w w') : Grown w w' := ⟨h.b.frame _, h.f, h.b.size⟩
theorem Nw.cells {W w1 : World} (h : Nw W.heap.size W w1) : (∀ b o, b < W.heap.size → w1.cell? ⟨b, o, none⟩ = W.cell? ⟨b, o, none⟩) :=
  fun b o hb => h.b.cell (p := ⟨b, o, none⟩) hb

theorem Nw.drewN {B : Nat} {a w : World} (h : Nw B a w) (n : Nat) : Nw B a (w.drewN n) := ⟨h.b.trans ⟨rfl, rfl, rfl, Nat.le_refl _, fun _ _ => rfl⟩, h.f⟩
theorem Nw.next {B : Nat} {w a b : World} (hB : B ≤ w.heap.size) (h : Nw B w a) (k : Nw a.heap.size a b) : Nw B w b := h.trans (k.mono (Nat.le_trans hB h.b.size))
theorem Nw.made {B : Nat} {w a : World} (hB : B ≤ w.heap.size) (h : Nw B w a) (c : Array Value) (t : TypeId) : Nw B w (a.alloc (.cells c t)) := h.alloc (Nat.le_trans hB h.b.size) c t
theorem Nw.hold {W w1 : World} (h : Nw W.heap.size W w1) {a : Addr} {v : Value} (hc : W.cell? a = some v) : w1.cell? a = some v :=
  (h.b.cell (World.block_lt_of_cell? W _ hc)).trans hc
/-- Is p one of the seven known primes? -/
def known (p : Int) : Bool := p == 17 || p == 97 || p == 193 || p == 257 || p == 12289 || p == 65537 || p == 18446744069414584321
theorem known_cases {p : Int} (h : known p = true) : p = 17 ∨ p = 97 ∨ p = 193 ∨ p = 257 ∨ p = 12289 ∨ p = 65537 ∨ p = 18446744069414584321 := by
  simpa [known, or_assoc] using h
theorem known_lo {p : Int} (h : known p = true) : 17 ≤ p := by have := known_cases h; omega
theorem known_hi {p : Int} (h : known p = true) : p ≤ 18446744069414584321 := by have := known_cases h; omega
theorem unknown_each {p : Int} (h : known p = false) : (p == 17) = false ∧ (p == 97) = false ∧ (p == 193) = false ∧ (p == 257) = false ∧ (p == 12289) = false ∧ (p == 65537) = false ∧ (p == 18446744069414584321) = false := by
  simpa [known, and_assoc] using h

/-! The functions that the chapter defines. -/
def rd (p n : Int) : Int := if known p then n % p else 0
def ad (p a b : Int) : Int := if known p then (a + b) % p else 0
def sb (p a b : Int) : Int := if known p then (a - b) % p else 0
def ml (p a b : Int) : Int := if known p then a * b % p else 0
def pw (p a e : Int) : Int := if known p then a ^ e.toNat % p else 0

set_option maxHeartbeats 400000 in
theorem valid_any (p : Int) (w : World) :
    Calls Try.prog 37 #[.agg #[.int .u64 p]] w fun e w' => e = .returned (.bool (known p)) ∧ Nw w.heap.size w w' := by
  by_cases h : known p = true
  · rw [h]
    rcases known_cases h with rfl | rfl | rfl | rfl | rfl | rfl | rfl
    all_goals
      clear h
      go_enter Try.func37, Try.ntmps37
      go_wp2
      go_ret
      exact ⟨rfl, (Nw.refl _ _).alloc (Nat.le_refl _) _ _⟩
  · have h : known p = false := by simpa using h
    obtain ⟨h1, h2, h3, h4, h5, h6, h7⟩ := unknown_each h
    rw [h]; clear h
    go_enter Try.func37, Try.ntmps37
    go_wp2
    go_ret
    exact ⟨rfl, (Nw.refl _ _).alloc (Nat.le_refl _) _ _⟩

set_option maxHeartbeats 400000 in
theorem reduce_small (p n : Int) (hp : 17 ≤ p) (hq : p ≤ 18446744069414584321) (hn : 0 ≤ n) (hm : n ≤ 18446744073709551615) (w : World) :
    Calls Try.prog 43 #[.agg #[.int .u64 p], .int .u64 n] w fun e w' => e = .returned (.int .u64 (n % p)) ∧ Nw w.heap.size w w' := by
  by_cases h : n < p
  · have e : n % p = n := Int.emod_eq_of_lt hn h
    have E := Lib.hid e; clear e
    go_enter Try.func43, Try.ntmps43
    go_wp2
    go_ret
    rw [E.out]
    exact ⟨rfl, (Nw.refl _ _).alloc (Nat.le_refl _) _ _⟩
  · go_enter Try.func43, Try.ntmps43
    go_wp2
    go_ret
    exact ⟨rfl, (Nw.refl _ _).alloc (Nat.le_refl _) _ _⟩

set_option maxHeartbeats 400000 in
theorem add_small (p a b : Int) (hp : 17 ≤ p) (hq : p ≤ 18446744069414584321) (ha : 0 ≤ a) (ha' : a < p) (hb : 0 ≤ b) (hb' : b < p) (w : World) :
    Calls Try.prog 57 #[.agg #[.int .u64 p], .int .u64 a, .int .u64 b] w fun e w' => e = .returned (.int .u64 ((a + b) % p)) ∧ Nw w.heap.size w w' := by
  by_cases h : p - b ≤ a
  · have e : (a + b) % p = a - (p - b) := by
      rw [show a + b = a - (p - b) + p from by omega, Int.add_emod_right]; exact Int.emod_eq_of_lt (by omega) (by omega)
    have E := Lib.hid e; clear e
    go_enter Try.func57, Try.ntmps57
    go_wp2
    go_ret
    rw [E.out]
    exact ⟨rfl, (Nw.refl _ _).alloc (Nat.le_refl _) _ _⟩
  · have e : (a + b) % p = a + b := Int.emod_eq_of_lt (by omega) (by omega)
    have E := Lib.hid e; clear e
    go_enter Try.func57, Try.ntmps57
    go_wp2
    go_ret
    rw [E.out]
    exact ⟨rfl, (Nw.refl _ _).alloc (Nat.le_refl _) _ _⟩

end Go.Proofs.Ytnmbggdfcgbniaa
