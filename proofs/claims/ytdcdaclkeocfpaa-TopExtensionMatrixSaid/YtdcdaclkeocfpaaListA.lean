/- The walks of the sums over lists: package field's and the reference's. -/
import Derived.Test.YtdcdaclkeocfpaaLawC
namespace Go.Proofs.Ytdcdaclkeocfpaa
open Go.RowKit

/-- v is a slice of n numbers f 0, f 1, .. in the world w. -/
structure RowOf (w : World) (v : Value) (n : Nat) (f : Nat → Int) : Prop where
  short : n ≤ 200
  range : ∀ i, 0 ≤ f i ∧ f i ≤ 18446744073709551615
  form : ∃ a c, v = .slice a n c
  cells : ∀ i, i < n → ∃ b o c, v = .slice (some ⟨b, o, none⟩) n c ∧ w.cell? ⟨b, o + i, none⟩ = some (.int .u64 (f i))
theorem RowOf.hold {W w1 : World} {v : Value} {n : Nat} {f : Nat → Int} (h : RowOf W v n f) (k : Nw W.heap.size W w1) : RowOf w1 v n f :=
  ⟨h.short, h.range, h.form, fun i hi => by obtain ⟨b, o, c, e, hc⟩ := h.cells i hi; exact ⟨b, o, c, e, k.hold hc⟩⟩
theorem RowOf.drew {W : World} {v : Value} {n : Nat} {f : Nat → Int} (h : RowOf W v n f) (m : Nat) : RowOf (W.drewN m) v n f := ⟨h.short, h.range, h.form, h.cells⟩

/-- The sum of the first numbers, as the loop makes it. -/
def sumTo (p : Int) (f : Nat → Int) : Nat → Int
  | 0 => 0
  | k + 1 => ad p (sumTo p f k) (f k)
theorem ad_lo' {p a b : Int} : 0 ≤ ad p a b := by
  unfold ad; split
  · exact Int.emod_nonneg _ (by have := known_lo ‹_›; omega)
  · exact Int.le_refl _
theorem ad_hi' {p a b : Int} : ad p a b ≤ 18446744069414584320 := by
  unfold ad; split
  · rename_i h; have := Int.emod_lt_of_pos (a + b) (show 0 < p by have := known_lo h; omega); have := known_hi h; omega
  · omega
theorem sumTo_lo (p : Int) (f : Nat → Int) (k : Nat) : 0 ≤ sumTo p f k := by cases k with | zero => exact Int.le_refl _ | succ k => exact ad_lo'
theorem sumTo_hi (p : Int) (f : Nat → Int) (k : Nat) : sumTo p f k ≤ 18446744069414584320 := by cases k with | zero => simp [sumTo] | succ k => exact ad_hi'
theorem sumTo_lt {p : Int} (hk : known p = true) (f : Nat → Int) (k : Nat) : sumTo p f k < p := by
  have := known_lo hk
  cases k with
  | zero => simp [sumTo]; omega
  | succ k => rw [sumTo, ad, if_pos hk]; exact Int.emod_lt_of_pos _ (by omega)
theorem sumTo_unknown {p : Int} (hk : known p = false) (f : Nat → Int) (k : Nat) : sumTo p f k = 0 := by
  cases k with | zero => rfl | succ k => rw [sumTo, ad, hk]; rfl
theorem sumTo_step {p : Int} (hk : known p = true) (f : Nat → Int) (k : Nat) : (sumTo p f k + f k % p) % p = sumTo p f (k + 1) := by
  rw [sumTo, ad, if_pos hk, Int.add_emod, Int.emod_emod, ← Int.add_emod]

end Go.Proofs.Ytdcdaclkeocfpaa
