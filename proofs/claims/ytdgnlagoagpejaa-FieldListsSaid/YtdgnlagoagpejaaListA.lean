/- The walks of the sums over lists: package field's and the reference's. -/
import Derived.Test.YtdgnlagoagpejaaLawC
namespace Go.Proofs.Ytdgnlagoagpejaa
open Go.RowKit

/-- v is a slice of n numbers f 0, f 1, .. in the world w. -/
structure RowOf (w : World) (v : Value) (n : Nat) (f : Nat → Int) : Prop where
  short : n ≤ 200
  range : ∀ i, 0 ≤ f i ∧ f i ≤ 18446744073709551615
  form : ∃ a c, v = .slice a n c
  cells : ∀ i, i < n → ∃ b o c, v = .slice (some ⟨b, o, none⟩) n c ∧ w.cell? ⟨b, o + i, none⟩ = some (.int .u64 (f i))
theorem RowOf.hold {W w1 : World} {v : Value} {n : Nat} {f : Nat → Int} (h : RowOf W v n f) (k : Nw W.heap.size W w1) : RowOf w1 v n f :=
  ⟨h.short, h.range, h.form, fun i hi => by obtain ⟨b, o, c, e, hc⟩ := h.cells i hi; exact ⟨b, o, c, e, k.hold hc⟩⟩
theorem RowOf.drew {W : World} {v : Value} {n : Nat} {f : Nat → Int} (h : RowOf W v n f) (m : Nat) : RowOf (W.drewN m) v n f := ⟨h.short, h.range, h.form, h.cells⟩

/-- The sum of the first numbers, as the loop makes it. -/
def sumTo (p : Int) (f : Nat → Int) : Nat → Int
  | 0 => 0
  | k + 1 => ad p (sumTo p f k) (f k)
theorem ad_lo' {p a b : Int} : 0 ≤ ad p a b := by
  unfold ad; split
  · exact Int.emod_nonneg _ (by have := known_lo ‹_›; omega)
  · exact Int.le_refl _
theorem ad_hi' {p a b : Int} : ad p a b ≤ 18446744069414584320 := by
  unfold ad; split
  · rename_i h; have := Int.emod_lt_of_pos (a + b) (show 0 < p by have := known_lo h; omega); have := known_hi h; omega
  · omega
theorem sumTo_lo (p : Int) (f : Nat → Int) (k : Nat) : 0 ≤ sumTo p f k := by cases k with | zero => exact Int.le_refl _ | succ k => exact ad_lo'
theorem sumTo_hi (p : Int) (f : Nat → Int) (k : Nat) : sumTo p f k ≤ 18446744069414584320 := by cases k with | zero => simp [sumTo] | succ k => exact ad_hi'
theorem sumTo_lt {p : Int} (hk : known p = true) (f : Nat → Int) (k : Nat) : sumTo p f k < p := by
  have := known_lo hk
  cases k with
  | zero => simp [sumTo]; omega
  | succ k => rw [sumTo, ad, if_pos hk]; exact Int.emod_lt_of_pos _ (by omega)
theorem sumTo_unknown {p : Int} (hk : known p = false) (f : Nat → Int) (k : Nat) : sumTo p f k = 0 := by
  cases k with | zero => rfl | succ k => rw [sumTo, ad, hk]; rfl
theorem sumTo_step {p : Int} (hk : known p = true) (f : Nat → Int) (k : Nat) : (sumTo p f k + f k % p) % p = sumTo p f (k + 1) := by
  rw [sumTo, ad, if_pos hk, Int.add_emod, Int.emod_emod, ← Int.add_emod]

set_option maxHeartbeats 4000000 in
theorem rSum_any (p : Int) (v : Value) (n : Nat) (f : Nat → Int) (w : World) (hr : RowOf w v n f) :
    Calls Try.prog 42 #[.int .u64 p, v] w fun e w' => e = .returned (.int .u64 (sumTo p f n)) ∧ Nw w.heap.size w w' := by
  have hsh := hr.short
  obtain ⟨a0, c0, rfl⟩ := hr.form
  have HR := Lib.hid hr
  clear hr
  go_enter Try.func42, Try.ntmps42
  go_wp2_with fail
  go_loopw [5, 6] (fun sv iv wr => ∃ k : Nat, sv = .int .u64 (sumTo p f k) ∧ iv = .int .i64 k ∧ k ≤ n ∧ Nw w.heap.size w wr) (fun _ iv _ => n - (intOf iv).toNat)
  case atStart => exact ⟨0, rfl, rfl, Nat.zero_le _, Nw.refl _ _⟩
  case round =>
    obtain ⟨k, rfl, rfl, hk, hnr⟩ := hrel
    by_cases hlt : k < n
    · obtain ⟨b, o, c, he, hc⟩ := (HR.out.hold hnr).cells k hlt
      obtain ⟨g0, g1⟩ := HR.out.range k
      have s0 := sumTo_lo p f k
      have s1 := sumTo_hi p f k
      cases he
      have i0 : (0 : Int) ≤ (k : Int) := by omega
      have i1 : (k : Int) < (n : Int) := by omega
      go_wp2_with (go_at_call 16; refine (rAdd_any _ _ _ (by omega) (by omega) (by omega) (by omega) _).mono ?_; rintro e w4 ⟨rfl, hb4⟩)
      exact ⟨⟨k + 1, rfl, rfl, by omega, Nw.next (Nat.le_refl _) hnr hb4⟩, by simp [intOf]; omega⟩
    · obtain rfl : k = n := by omega
      go_wp2_with fail
      go_ret
      exact ⟨rfl, hnr⟩

set_option maxHeartbeats 4000000 in
theorem fSum_any (p : Int) (v : Value) (n : Nat) (f : Nat → Int) (w : World) (hr : RowOf w v n f) :
    Calls Try.prog 41 #[.agg #[.int .u64 p], v] w fun e w' => e = .returned (.int .u64 (sumTo p f n)) ∧ Nw w.heap.size w w' := by
  have hsh := hr.short
  by_cases hk : known p = true
  · have hpl := known_lo hk
    have hph := known_hi hk
    obtain ⟨a0, c0, rfl⟩ := hr.form
    have HR := Lib.hid hr
    have HK := Lib.hid hk
    clear hr hk
    go_enter Try.func41, Try.ntmps41
    go_wp2_with (go_at_call 31; refine (valid_any _ _).mono ?_; rintro e w1 ⟨rfl, hb1⟩; rw [HK.out])
    have hcell : w1.cell? ⟨w.heap.size, 0, none⟩ = some (.int .u64 p) := hb1.hold (by go_simp)
    have hnw : Nw w.heap.size w w1 := by (repeat (first | exact Nw.refl _ _ | refine Nw.drew ?_ | refine Nw.drewN ?_ _ | refine Nw.made (Nat.le_refl _) ?_ _ _ | refine Nw.next (Nat.le_refl _) ?_ (by assumption)))
    clear hb1
    go_loopw [5, 13] (fun sv iv wr => ∃ k : Nat, sv = .int .u64 (sumTo p f k) ∧ iv = .int .i64 k ∧ k ≤ n ∧ wr.cell? ⟨w.heap.size, 0, none⟩ = some (.int .u64 p) ∧ Nw w.heap.size w wr) (fun _ iv _ => n - (intOf iv).toNat)
    case atStart => exact ⟨0, rfl, rfl, Nat.zero_le _, hcell, hnw⟩
    case round =>
      obtain ⟨k, rfl, rfl, hk, hcr, hnr⟩ := hrel
      clear hcell hnw
      by_cases hlt : k < n
      · obtain ⟨b, o, c, he, hc⟩ := (HR.out.hold hnr).cells k hlt
        obtain ⟨g0, g1⟩ := HR.out.range k
        have s0 := sumTo_lo p f k
        have s1 := sumTo_lt HK.out f k
        have ra := red_lo (n := f k) hpl
        have ra' := red_hi (n := f k) hpl
        cases he
        have i0 : (0 : Int) ≤ (k : Int) := by omega
        have i1 : (k : Int) < (n : Int) := by omega
        go_wp2_with fail
        go_region_held3 (fun w' => w'.cell? ⟨w.heap.size, 0, none⟩ = some (.int .u64 p))
          (first | assumption | exact Nw.hold ‹_› ‹_›)
          (first
            | (go_at_call 47; refine (reduce_small _ _ (by omega) (by omega) (by omega) (by omega) _).mono ?_; rintro e w2 ⟨rfl, hb2⟩)
            | (go_at_call 48; refine (add_small _ _ _ (by omega) (by omega) (by omega) (by omega) (by omega) (by omega) _).mono ?_; rintro e w2 ⟨rfl, hb2⟩))
        go_wp2
        exact ⟨⟨k + 1, by rw [← sumTo_step HK.out]; simp, rfl, by omega, by assumption, by (repeat (first | exact Nw.refl _ _ | refine Nw.drew ?_ | refine Nw.drewN ?_ _ | refine Nw.made (Nat.le_refl _) ?_ _ _ | refine Nw.next (Nat.le_refl _) ?_ (by assumption)))⟩, by simp [intOf]; omega⟩
      · obtain rfl : k = n := by omega
        go_wp2_with fail
        go_ret
        exact ⟨rfl, hnr⟩
  · have HK := Lib.hid (show known p = false by simpa using hk)
    rw [sumTo_unknown HK.out]
    obtain ⟨a0, c0, rfl⟩ := hr.form
    clear hk hr
    go_enter Try.func41, Try.ntmps41
    go_wp2_with (go_at_call 31; refine (valid_any _ _).mono ?_; rintro e w1 ⟨rfl, hb1⟩; rw [HK.out])
    go_ret
    exact ⟨rfl, by (repeat (first | exact Nw.refl _ _ | refine Nw.drew ?_ | refine Nw.drewN ?_ _ | refine Nw.made (Nat.le_refl _) ?_ _ _ | refine Nw.next (Nat.le_refl _) ?_ (by assumption)))⟩
end Go.Proofs.Ytdgnlagoagpejaa
