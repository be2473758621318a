/- The walks of the sums of products: package field's and the reference's. -/
import Derived.Test.YtdcdaclkeocfpaaListA
namespace Go.Proofs.Ytdcdaclkeocfpaa
open Go.RowKit

/-- The sum of the first products, as the loop makes it. -/
def dotTo (p : Int) (f g : Nat → Int) : Nat → Int
  | 0 => 0
  | k + 1 => ad p (dotTo p f g k) (ml p (f k) (g k))
theorem dotTo_lo (p : Int) (f g : Nat → Int) (k : Nat) : 0 ≤ dotTo p f g k := by cases k with | zero => exact Int.le_refl _ | succ k => exact ad_lo'
theorem dotTo_hi (p : Int) (f g : Nat → Int) (k : Nat) : dotTo p f g k ≤ 18446744069414584320 := by cases k with | zero => simp [dotTo] | succ k => exact ad_hi'
theorem dotTo_lt {p : Int} (hk : known p = true) (f g : Nat → Int) (k : Nat) : dotTo p f g k < p := by
  have := known_lo hk
  cases k with
  | zero => simp [dotTo]; omega
  | succ k => rw [dotTo, ad, if_pos hk]; exact Int.emod_lt_of_pos _ (by omega)
theorem dotTo_unknown {p : Int} (hk : known p = false) (f g : Nat → Int) (k : Nat) : dotTo p f g k = 0 := by
  cases k with | zero => rfl | succ k => rw [dotTo, ad, hk]; rfl
theorem dotTo_step {p : Int} (hk : known p = true) (f g : Nat → Int) (k : Nat) : (dotTo p f g k + f k % p * (g k % p) % p) % p = dotTo p f g (k + 1) := by
  rw [dotTo, ad, ml, if_pos hk, if_pos hk, ← Int.mul_emod]
theorem ml_lo' {p a b : Int} : 0 ≤ ml p a b := by
  unfold ml; split
  · exact Int.emod_nonneg _ (by have := known_lo ‹_›; omega)
  · exact Int.le_refl _
theorem ml_hi' {p a b : Int} : ml p a b ≤ 18446744069414584320 := by
  unfold ml; split
  · rename_i h; have := Int.emod_lt_of_pos (a * b) (show 0 < p by have := known_lo h; omega); have := known_hi h; omega
  · omega

theorem Nw.hold2 {W w1 : World} (h : Nw W.heap.size W w1) {a b : Addr} {v u : Value} (hc : W.cell? a = some v ∧ W.cell? b = some u) : w1.cell? a = some v ∧ w1.cell? b = some u := ⟨h.hold hc.1, h.hold hc.2⟩
theorem Nw.hold3 {W w1 : World} (h : Nw W.heap.size W w1) {a b c : Addr} {v u x : Value} (hc : W.cell? a = some v ∧ W.cell? b = some u ∧ W.cell? c = some x) : w1.cell? a = some v ∧ w1.cell? b = some u ∧ w1.cell? c = some x := ⟨h.hold hc.1, h.hold hc.2.1, h.hold hc.2.2⟩

set_option maxHeartbeats 4000000 in
theorem rDot_any (p : Int) (v u : Value) (n m : Nat) (f g : Nat → Int) (w : World) (hr : RowOf w v n f) (hs : RowOf w u m g) :
    Calls Try.prog 70 #[.int .u64 p, v, u] w fun e w' => e = .returned (.int .u64 (dotTo p f g (min n m))) ∧ Nw w.heap.size w w' := by
  have hsh := hr.short
  have hsh' := hs.short
  obtain ⟨a0, c0, rfl⟩ := hr.form
  obtain ⟨a1, c1, rfl⟩ := hs.form
  have HR := Lib.hid hr
  have HS := Lib.hid hs
  clear hr hs
  obtain ⟨M, hM⟩ : ∃ M : Nat, M = min n m := ⟨_, rfl⟩
  rw [← hM]
  have HM := Lib.hid hM
  clear hM
  go_enter Try.func70, Try.ntmps70
  go_wp2_with fail
  go_loopw [7, 8] (fun sv iv wr => ∃ k : Nat, sv = .int .u64 (dotTo p f g k) ∧ iv = .int .i64 k ∧ k ≤ n ∧ k ≤ m ∧ Nw w.heap.size w wr) (fun _ iv _ => n - (intOf iv).toNat)
  case atStart => exact ⟨0, rfl, rfl, Nat.zero_le _, Nat.zero_le _, Nw.refl _ _⟩
  case round =>
    obtain ⟨k, rfl, rfl, hk, hk', hnr⟩ := hrel
    by_cases hlt : k < n
    · by_cases hlt' : k < m
      · obtain ⟨b, o, c, he, hc⟩ := (HR.out.hold hnr).cells k hlt
        obtain ⟨b', o', c', he', hc'⟩ := (HS.out.hold hnr).cells k hlt'
        obtain ⟨g0, g1⟩ := HR.out.range k
        obtain ⟨g2, g3⟩ := HS.out.range k
        have s0 := dotTo_lo p f g k
        have s1 := dotTo_hi p f g k
        have m0 := @ml_lo' p (f k) (g k)
        have m1 := @ml_hi' p (f k) (g k)
        cases he
        cases he'
        have i0 : (0 : Int) ≤ (k : Int) := by omega
        have i1 : (k : Int) < (n : Int) := by omega
        have i2 : (k : Int) < (m : Int) := by omega
        go_wp2_with fail
        have hcc := And.intro hc hc'
        go_region_held3 (fun w' => w'.cell? ⟨b, o + k, none⟩ = some (.int .u64 (f k)) ∧ w'.cell? ⟨b', o' + k, none⟩ = some (.int .u64 (g k)))
          (first | assumption | exact Nw.hold2 ‹_› ‹_›)
          (first
            | (go_at_call 43; refine (rMul_any _ _ _ (by omega) (by omega) (by omega) (by omega) _).mono ?_; rintro e w2 ⟨rfl, hb2⟩)
            | (go_at_call 72; refine (rAdd_any _ _ _ (by omega) (by omega) (by omega) (by omega) _).mono ?_; rintro e w2 ⟨rfl, hb2⟩))
        go_wp2
        exact ⟨⟨k + 1, rfl, rfl, by omega, by omega, by (repeat (first | exact Nw.refl _ _ | refine Nw.drew ?_ | refine Nw.drewN ?_ _ | refine Nw.made (Nat.le_refl _) ?_ _ _ | refine Nw.next (Nat.le_refl _) ?_ (by assumption)))⟩, by simp [intOf]; omega⟩
      · obtain rfl : k = m := by omega
        have i3 : (k : Int) < (n : Int) := by omega
        go_wp2_with fail
        go_ret
        exact ⟨ret_int (by have := HM.out; rw [show M = k from by omega]), hnr⟩
    · obtain rfl : k = n := by omega
      go_wp2_with fail
      go_ret
      exact ⟨ret_int (by have := HM.out; rw [show M = k from by omega]), hnr⟩

set_option maxHeartbeats 4000000 in
theorem fDot_le (p : Int) (v u : Value) (n m : Nat) (f g : Nat → Int) (w : World) (hk : known p = true) (hnm : n ≤ m) (hr : RowOf w v n f) (hs : RowOf w u m g) :
    Calls Try.prog 78 #[.agg #[.int .u64 p], v, u] w fun e w' => e = .returned (.int .u64 (dotTo p f g n)) ∧ Nw w.heap.size w w' := by
  have hsh := hr.short
  have hsh' := hs.short
  obtain ⟨a0, c0, rfl⟩ := hr.form
  obtain ⟨a1, c1, rfl⟩ := hs.form
  have hpl := known_lo hk
  have hph := known_hi hk
  have HR := Lib.hid hr
  have HS := Lib.hid hs
  have HK := Lib.hid hk
  clear hr hs hk
  go_enter Try.func78, Try.ntmps78
  go_wp2_with (go_at_call 75; refine (valid_any _ _).mono ?_; rintro e w1 ⟨rfl, hb1⟩; rw [HK.out])
  have hcell : w1.cell? ⟨w.heap.size, 0, none⟩ = some (.int .u64 p) := hb1.hold (by go_simp)
  have hnw : Nw w.heap.size w w1 := by (repeat (first | exact Nw.refl _ _ | refine Nw.drew ?_ | refine Nw.drewN ?_ _ | refine Nw.made (Nat.le_refl _) ?_ _ _ | refine Nw.next (Nat.le_refl _) ?_ (by assumption)))
  clear hb1
  go_loopw [7, 17] (fun sv iv wr => ∃ k : Nat, sv = .int .u64 (dotTo p f g k) ∧ iv = .int .i64 k ∧ k ≤ n ∧ wr.cell? ⟨w.heap.size, 0, none⟩ = some (.int .u64 p) ∧ Nw w.heap.size w wr) (fun _ iv _ => n - (intOf iv).toNat)
  case atStart => exact ⟨0, rfl, rfl, Nat.zero_le _, hcell, hnw⟩
  case round =>
    obtain ⟨k, rfl, rfl, hk, hcr, hnr⟩ := hrel
    clear hcell hnw
    by_cases hlt : k < n
    · obtain ⟨b, o, c, he, hc⟩ := (HR.out.hold hnr).cells k (by omega)
      obtain ⟨b', o', c', he', hc'⟩ := (HS.out.hold hnr).cells k (by omega)
      obtain ⟨g0, g1⟩ := HR.out.range k
      obtain ⟨g2, g3⟩ := HS.out.range k
      have s0 := dotTo_lo p f g k
      have s1 := dotTo_lt HK.out f g k
      have ra := red_lo (n := f k) hpl
      have ra' := red_hi (n := f k) hpl
      have rb := red_lo (n := g k) hpl
      have rb' := red_hi (n := g k) hpl
      have rm := red_lo (n := f k % p * (g k % p)) hpl
      have rm' := red_hi (n := f k % p * (g k % p)) hpl
      cases he
      cases he'
      have i0 : (0 : Int) ≤ (k : Int) := by omega
      have i1 : (k : Int) < (n : Int) := by omega
      have i2 : (k : Int) < (m : Int) := by omega
      go_wp2_with fail
      have hcc := And.intro hcr (And.intro hc hc')
      go_region_held3 (fun w' => w'.cell? ⟨w.heap.size, 0, none⟩ = some (.int .u64 p) ∧ w'.cell? ⟨b, o + k, none⟩ = some (.int .u64 (f k)) ∧ w'.cell? ⟨b', o' + k, none⟩ = some (.int .u64 (g k)))
        (first | assumption | exact Nw.hold3 ‹_› ‹_›)
        (first
          | (go_at_call 77; refine (reduce_small _ _ (by omega) (by omega) (by omega) (by omega) _).mono ?_; rintro e w2 ⟨rfl, hb2⟩)
          | (go_at_call 76; refine (mul_small _ _ _ HK.out (by omega) (by omega) (by omega) (by omega) _).mono ?_; rintro e w2 ⟨rfl, hb2⟩)
          | (go_at_call 107; refine (add_small _ _ _ (by omega) (by omega) (by omega) (by first | omega | (rw [← Int.mul_emod]; omega)) (by omega) (by omega) _).mono ?_; rintro e w2 ⟨rfl, hb2⟩))
      go_wp2
      exact ⟨⟨k + 1, by rw [← dotTo_step HK.out]; first | rfl | simp, rfl, by omega, And.left (by assumption), by (repeat (first | exact Nw.refl _ _ | refine Nw.drew ?_ | refine Nw.drewN ?_ _ | refine Nw.made (Nat.le_refl _) ?_ _ _ | refine Nw.next (Nat.le_refl _) ?_ (by assumption)))⟩, by simp [intOf]; omega⟩
    · obtain rfl : k = n := by omega
      go_wp2_with fail
      go_ret
      exact ⟨rfl, hnr⟩

set_option maxHeartbeats 4000000 in
theorem fDot_ge (p : Int) (v u : Value) (n m : Nat) (f g : Nat → Int) (w : World) (hk : known p = true) (hnm : m < n) (hr : RowOf w v n f) (hs : RowOf w u m g) :
    Calls Try.prog 78 #[.agg #[.int .u64 p], v, u] w fun e w' => e = .returned (.int .u64 (dotTo p f g m)) ∧ Nw w.heap.size w w' := by
  have hsh := hr.short
  have hsh' := hs.short
  obtain ⟨a0, c0, rfl⟩ := hr.form
  obtain ⟨a1, c1, rfl⟩ := hs.form
  have hpl := known_lo hk
  have hph := known_hi hk
  have HR := Lib.hid hr
  have HS := Lib.hid hs
  have HK := Lib.hid hk
  clear hr hs hk
  go_enter Try.func78, Try.ntmps78
  go_wp2_with (go_at_call 75; refine (valid_any _ _).mono ?_; rintro e w1 ⟨rfl, hb1⟩; rw [HK.out])
  have hcell : w1.cell? ⟨w.heap.size, 0, none⟩ = some (.int .u64 p) := hb1.hold (by go_simp)
  have hnw : Nw w.heap.size w w1 := by (repeat (first | exact Nw.refl _ _ | refine Nw.drew ?_ | refine Nw.drewN ?_ _ | refine Nw.made (Nat.le_refl _) ?_ _ _ | refine Nw.next (Nat.le_refl _) ?_ (by assumption)))
  clear hb1
  go_loopw [7, 17] (fun sv iv wr => ∃ k : Nat, sv = .int .u64 (dotTo p f g k) ∧ iv = .int .i64 k ∧ k ≤ m ∧ wr.cell? ⟨w.heap.size, 0, none⟩ = some (.int .u64 p) ∧ Nw w.heap.size w wr) (fun _ iv _ => m - (intOf iv).toNat)
  case atStart => exact ⟨0, rfl, rfl, Nat.zero_le _, hcell, hnw⟩
  case round =>
    obtain ⟨k, rfl, rfl, hk, hcr, hnr⟩ := hrel
    clear hcell hnw
    by_cases hlt : k < m
    · obtain ⟨b, o, c, he, hc⟩ := (HR.out.hold hnr).cells k (by omega)
      obtain ⟨b', o', c', he', hc'⟩ := (HS.out.hold hnr).cells k (by omega)
      obtain ⟨g0, g1⟩ := HR.out.range k
      obtain ⟨g2, g3⟩ := HS.out.range k
      have s0 := dotTo_lo p f g k
      have s1 := dotTo_lt HK.out f g k
      have ra := red_lo (n := f k) hpl
      have ra' := red_hi (n := f k) hpl
      have rb := red_lo (n := g k) hpl
      have rb' := red_hi (n := g k) hpl
      have rm := red_lo (n := f k % p * (g k % p)) hpl
      have rm' := red_hi (n := f k % p * (g k % p)) hpl
      cases he
      cases he'
      have i0 : (0 : Int) ≤ (k : Int) := by omega
      have i1 : (k : Int) < (n : Int) := by omega
      have i2 : (k : Int) < (m : Int) := by omega
      go_wp2_with fail
      have hcc := And.intro hcr (And.intro hc hc')
      go_region_held3 (fun w' => w'.cell? ⟨w.heap.size, 0, none⟩ = some (.int .u64 p) ∧ w'.cell? ⟨b, o + k, none⟩ = some (.int .u64 (f k)) ∧ w'.cell? ⟨b', o' + k, none⟩ = some (.int .u64 (g k)))
        (first | assumption | exact Nw.hold3 ‹_› ‹_›)
        (first
          | (go_at_call 77; refine (reduce_small _ _ (by omega) (by omega) (by omega) (by omega) _).mono ?_; rintro e w2 ⟨rfl, hb2⟩)
          | (go_at_call 76; refine (mul_small _ _ _ HK.out (by omega) (by omega) (by omega) (by omega) _).mono ?_; rintro e w2 ⟨rfl, hb2⟩)
          | (go_at_call 107; refine (add_small _ _ _ (by omega) (by omega) (by omega) (by first | omega | (rw [← Int.mul_emod]; omega)) (by omega) (by omega) _).mono ?_; rintro e w2 ⟨rfl, hb2⟩))
      go_wp2
      exact ⟨⟨k + 1, by rw [← dotTo_step HK.out]; first | rfl | simp, rfl, by omega, And.left (by assumption), by (repeat (first | exact Nw.refl _ _ | refine Nw.drew ?_ | refine Nw.drewN ?_ _ | refine Nw.made (Nat.le_refl _) ?_ _ _ | refine Nw.next (Nat.le_refl _) ?_ (by assumption)))⟩, by simp [intOf]; omega⟩
    · obtain rfl : k = m := by omega
      go_wp2_with fail
      go_ret
      exact ⟨rfl, hnr⟩

set_option maxHeartbeats 4000000 in
theorem fDot_any (p : Int) (v u : Value) (n m : Nat) (f g : Nat → Int) (w : World) (hr : RowOf w v n f) (hs : RowOf w u m g) :
    Calls Try.prog 78 #[.agg #[.int .u64 p], v, u] w fun e w' => e = .returned (.int .u64 (dotTo p f g (min n m))) ∧ Nw w.heap.size w w' := by
  by_cases hk : known p = true
  · by_cases hnm : n ≤ m
    · rw [show min n m = n from by omega]; exact fDot_le p v u n m f g w hk hnm hr hs
    · rw [show min n m = m from by omega]; exact fDot_ge p v u n m f g w hk (by omega) hr hs
  · have HK := Lib.hid (show known p = false by simpa using hk)
    rw [dotTo_unknown HK.out]
    obtain ⟨a0, c0, rfl⟩ := hr.form
    obtain ⟨a1, c1, rfl⟩ := hs.form
    clear hk hr hs
    go_enter Try.func78, Try.ntmps78
    go_wp2_with (go_at_call 75; refine (valid_any _ _).mono ?_; rintro e w1 ⟨rfl, hb1⟩; rw [HK.out])
    go_ret
    exact ⟨rfl, by (repeat (first | exact Nw.refl _ _ | refine Nw.drew ?_ | refine Nw.drewN ?_ _ | refine Nw.made (Nat.le_refl _) ?_ _ _ | refine Nw.next (Nat.le_refl _) ?_ (by assumption)))⟩
end Go.Proofs.Ytdcdaclkeocfpaa
