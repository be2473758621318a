/- The contracts of the fields' methods with the bounds of their numbers found by instances. -/
import Derived.Test.YtdcdaclkeocfpaaLawC
import Derived.Test.YtdcdaclkeocfpaaTail
namespace Go.Proofs.Ytdcdaclkeocfpaa
open Go.RowKit

/-- x is a value of the type uint64. -/
class U (x : Int) : Prop where
  lo : 0 ≤ x
  hi : x ≤ 18446744073709551615
theorem U.red {p x : Int} (h : known p = true) : 0 ≤ x % p ∧ x % p ≤ 18446744073709551615 := by
  have h1 := known_lo h
  have h2 := known_hi h
  have := Int.emod_nonneg x (show p ≠ 0 by omega)
  have := Int.emod_lt_of_pos x (show 0 < p by omega)
  omega
instance {p a b : Int} : U (ad p a b) := by
  unfold ad; split
  · exact ⟨(U.red ‹_›).1, (U.red ‹_›).2⟩
  · exact ⟨by omega, by omega⟩
instance {p a b : Int} : U (sb p a b) := by
  unfold sb; split
  · exact ⟨(U.red ‹_›).1, (U.red ‹_›).2⟩
  · exact ⟨by omega, by omega⟩
instance {p a b : Int} : U (ml p a b) := by
  unfold ml; split
  · exact ⟨(U.red ‹_›).1, (U.red ‹_›).2⟩
  · exact ⟨by omega, by omega⟩
instance {p a : Int} : U (rd p a) := by
  unfold rd; split
  · exact ⟨(U.red ‹_›).1, (U.red ‹_›).2⟩
  · exact ⟨by omega, by omega⟩
instance instUpw {p a e : Int} : U (pw p a e) := by
  unfold pw; split
  · exact ⟨(U.red ‹_›).1, (U.red ‹_›).2⟩
  · exact ⟨by omega, by omega⟩
instance {p a : Int} : U (iv p a) := instUpw
theorem gen_u (p : Int) : 0 ≤ gen p ∧ gen p ≤ 18446744073709551615 := by
  by_cases h : known p = true
  · rcases known_cases h with rfl | rfl | rfl | rfl | rfl | rfl | rfl <;> decide
  · have h : known p = false := by simpa using h
    obtain ⟨h1, h2, h3, h4, h5, h6, h7⟩ := unknown_each h
    unfold gen
    simp [h1, h2, h3, h4, h5, h6, h7]
instance {p : Int} : U (gen p) := ⟨(gen_u p).1, (gen_u p).2⟩
instance : U 0 := ⟨by decide, by decide⟩
instance : U 1 := ⟨by decide, by decide⟩
instance : U 2 := ⟨by decide, by decide⟩
instance : U 3 := ⟨by decide, by decide⟩
instance : U 4 := ⟨by decide, by decide⟩
instance : U 17 := ⟨by decide, by decide⟩
theorem known_u {p : Int} (h : known p = true) : U p := ⟨by have := known_lo h; omega, by have := known_hi h; omega⟩

theorem fAdd_u (p a b : Int) [ha : U a] [hb : U b] (w : World) : Calls Try.prog 97 #[.agg #[.int .u64 p], .int .u64 a, .int .u64 b] w fun e w' => e = .returned (.int .u64 (ad p a b)) ∧ Nw w.heap.size w w' := fAdd_any p a b ha.lo ha.hi hb.lo hb.hi w

theorem fSub_u (p a b : Int) [ha : U a] [hb : U b] (w : World) : Calls Try.prog 88 #[.agg #[.int .u64 p], .int .u64 a, .int .u64 b] w fun e w' => e = .returned (.int .u64 (sb p a b)) ∧ Nw w.heap.size w w' := fSub_any p a b ha.lo ha.hi hb.lo hb.hi w

theorem fMul_u (p a b : Int) [ha : U a] [hb : U b] (w : World) : Calls Try.prog 38 #[.agg #[.int .u64 p], .int .u64 a, .int .u64 b] w fun e w' => e = .returned (.int .u64 (ml p a b)) ∧ Nw w.heap.size w w' := fMul_any p a b ha.lo ha.hi hb.lo hb.hi w

theorem fNeg_u (p a : Int) [ha : U a] (w : World) : Calls Try.prog 68 #[.agg #[.int .u64 p], .int .u64 a] w fun e w' => e = .returned (.int .u64 (sb p 0 a)) ∧ Nw w.heap.size w w' := fNeg_any p a ha.lo ha.hi w

theorem fReduce_u (p a : Int) [ha : U a] (w : World) : Calls Try.prog 56 #[.agg #[.int .u64 p], .int .u64 a] w fun e w' => e = .returned (.int .u64 (rd p a)) ∧ Nw w.heap.size w w' := fReduce_any p a ha.lo ha.hi w

theorem fPow_u (p a e : Int) [ha : U a] [he : U e] (w : World) : Calls Try.prog 115 #[.agg #[.int .u64 p], .int .u64 a, .int .u64 e] w fun en w' => en = .returned (.int .u64 (pw p a e)) ∧ Nw w.heap.size w w' := fPow_any p a e ha.lo ha.hi he.lo he.hi w

theorem fInv_u (p a : Int) [hp : U p] [ha : U a] (w : World) : Calls Try.prog 87 #[.agg #[.int .u64 p], .int .u64 a] w fun en w' => en = .returned (.int .u64 (iv p a)) ∧ Nw w.heap.size w w' := fInv_any p a hp.lo hp.hi ha.lo ha.hi w

theorem fGenerator_u (p : Int) (w : World) : Calls Try.prog 57 #[.agg #[.int .u64 p]] w fun e w' => e = .returned (.int .u64 (gen p)) ∧ Nw w.heap.size w w' := fGenerator_any p w

theorem rAdd_u (p a b : Int) [ha : U a] [hb : U b] (w : World) : Calls Try.prog 72 #[.int .u64 p, .int .u64 a, .int .u64 b] w fun e w' => e = .returned (.int .u64 (ad p a b)) ∧ Nw w.heap.size w w' := rAdd_any p a b ha.lo ha.hi hb.lo hb.hi w

theorem rSub_u (p a b : Int) [hp : U p] [ha : U a] [hb : U b] (w : World) : Calls Try.prog 42 #[.int .u64 p, .int .u64 a, .int .u64 b] w fun e w' => e = .returned (.int .u64 (sb p a b)) ∧ Nw w.heap.size w w'   := rSub_any p a b hp.lo hp.hi ha.lo ha.hi hb.lo hb.hi w

theorem rMul_u (p a b : Int) [ha : U a] [hb : U b] (w : World) : Calls Try.prog 43 #[.int .u64 p, .int .u64 a, .int .u64 b] w fun e w' => e = .returned (.int .u64 (ml p a b)) ∧ Nw w.heap.size w w' := rMul_any p a b ha.lo ha.hi hb.lo hb.hi w

theorem rNeg_u (p a : Int) [hp : U p] [ha : U a] (w : World) : Calls Try.prog 69 #[.int .u64 p, .int .u64 a] w fun e w' => e = .returned (.int .u64 (sb p 0 a)) ∧ Nw w.heap.size w w' := rNeg_any p a hp.lo hp.hi ha.lo ha.hi w

theorem rReduce_u (p a : Int) [ha : U a] (w : World) : Calls Try.prog 105 #[.int .u64 p, .int .u64 a] w fun e w' => e = .returned (.int .u64 (rd p a)) ∧ Nw w.heap.size w w' := rReduce_any p a ha.lo ha.hi w

theorem rPow_u (p a e : Int) [ha : U a] [he : U e] (w : World) : Calls Try.prog 119 #[.int .u64 p, .int .u64 a, .int .u64 e] w fun en w' => en = .returned (.int .u64 (pw p a e)) ∧ Nw w.heap.size w w' := rPow_any p a e ha.lo ha.hi he.lo he.hi w

theorem rValid_u (p : Int) (w : World) : Calls Try.prog 79 #[.int .u64 p] w fun e w' => e = .returned (.bool (known p)) ∧ Nw w.heap.size w w' := rValid_any p w

set_option maxHeartbeats 1000000 in
theorem rInv_u (p a : Int) [hp : U p] [ha : U a] (w : World) : Calls Try.prog 103 #[.int .u64 p, .int .u64 a] w fun en w' => en = .returned (.int .u64 (iv p a)) ∧ Nw w.heap.size w w' := by
  have hp0 := hp.lo
  have hp1 := hp.hi
  have ha0 := ha.lo
  have ha1 := ha.hi
  by_cases hk : known p = true
  · have hpl := known_lo hk
    have HK := Lib.hid hk
    clear hk
    go_enter Try.func103, Try.ntmps103
    go_wp2_with (first
      | (go_at_call 79; refine (rValid_any _ _).mono ?_; rintro e w1 ⟨rfl, hb1⟩; rw [HK.out])
      | (go_at_call 119; refine (rPow_any _ _ _ (by omega) (by omega) (by omega) (by omega) _).mono ?_; rintro e w2 ⟨rfl, hb2⟩))
    go_ret
    exact ⟨rfl, by (repeat (first | exact Nw.refl _ _ | assumption | refine Nw.drew ?_ | refine Nw.drewN ?_ _ | refine Nw.set ?_ (by first | omega | (simp; done) | (simp; omega)) _ | refine Nw.made (Nat.le_refl _) ?_ _ _ | refine Nw.next (Nat.le_refl _) ?_ (by assumption)))⟩
  · have er : iv p a = 0 := by rw [iv, pw, if_neg hk]
    rw [er]
    have HK := Lib.hid (show known p = false by simpa using hk)
    clear er hk
    go_enter Try.func103, Try.ntmps103
    go_wp2_with (go_at_call 79; refine (rValid_any _ _).mono ?_; rintro e w1 ⟨rfl, hb1⟩; rw [HK.out])
    go_ret
    exact ⟨rfl, by (repeat (first | exact Nw.refl _ _ | assumption | refine Nw.drew ?_ | refine Nw.drewN ?_ _ | refine Nw.set ?_ (by first | omega | (simp; done) | (simp; omega)) _ | refine Nw.made (Nat.le_refl _) ?_ _ _ | refine Nw.next (Nat.le_refl _) ?_ (by assumption)))⟩
end Go.Proofs.Ytdcdaclkeocfpaa
