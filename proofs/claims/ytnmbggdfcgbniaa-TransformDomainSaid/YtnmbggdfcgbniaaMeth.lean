/- The walks of package field's methods on two numbers: what each returns. -/
import Derived.Test.YtnmbggdfcgbniaaProd
namespace Go.Proofs.Ytnmbggdfcgbniaa
open Go.RowKit

theorem red_lo {p n : Int} (hp : 17 ≤ p) : 0 ≤ n % p := Int.emod_nonneg _ (by omega)
theorem red_hi {p n : Int} (hp : 17 ≤ p) : n % p < p := Int.emod_lt_of_pos _ (by omega)

set_option maxHeartbeats 1000000 in
theorem fReduce_any (p n : Int) (hn : 0 ≤ n) (hm : n ≤ 18446744073709551615) (w : World) :
    Calls Try.prog 30 #[.agg #[.int .u64 p], .int .u64 n] w fun e w' => e = .returned (.int .u64 (rd p n)) ∧ Nw w.heap.size w w' := by
  by_cases hk : known p = true
  · have hpl := known_lo hk
    have hph := known_hi hk
    have er : rd p n = n % p := by rw [rd, if_pos hk]
    rw [er]
    have HK := Lib.hid hk
    clear er hk
    go_enter Try.func30, Try.ntmps30
    go_wp2_with (first
      | (go_at_call 37; refine (valid_any _ _).mono ?_; rintro e w1 ⟨rfl, hb1⟩; rw [HK.out]; have hc1 := hb1.cells)
      | (go_at_call 43; refine (reduce_small _ _ (by omega) (by omega) (by omega) (by omega) _).mono ?_; rintro e w2 ⟨rfl, hb2⟩))
    go_ret
    exact ⟨rfl, by (repeat (first | exact Nw.refl _ _ | refine Nw.drew ?_ | refine Nw.made (Nat.le_refl _) ?_ _ _ | refine Nw.next (Nat.le_refl _) ?_ (by assumption)))⟩
  · have er : rd p n = 0 := by rw [rd, if_neg hk]
    rw [er]
    have HK := Lib.hid (show known p = false by simpa using hk)
    clear er hk
    go_enter Try.func30, Try.ntmps30
    go_wp2_with (go_at_call 37; refine (valid_any _ _).mono ?_; rintro e w1 ⟨rfl, hb1⟩; rw [HK.out])
    go_ret
    exact ⟨rfl, by (repeat (first | exact Nw.refl _ _ | refine Nw.drew ?_ | refine Nw.made (Nat.le_refl _) ?_ _ _ | refine Nw.next (Nat.le_refl _) ?_ (by assumption)))⟩

set_option maxHeartbeats 1000000 in
theorem fAdd_any (p a b : Int) (ha : 0 ≤ a) (ha' : a ≤ 18446744073709551615) (hb : 0 ≤ b) (hb' : b ≤ 18446744073709551615) (w : World) :
    Calls Try.prog 49 #[.agg #[.int .u64 p], .int .u64 a, .int .u64 b] w fun e w' => e = .returned (.int .u64 (ad p a b)) ∧ Nw w.heap.size w w' := by
  by_cases hk : known p = true
  · have hpl := known_lo hk
    have hph := known_hi hk
    have ra := red_lo (n := a) hpl
    have ra' := red_hi (n := a) hpl
    have rb := red_lo (n := b) hpl
    have rb' := red_hi (n := b) hpl
    have er : ad p a b = (a + b) % p := by rw [ad, if_pos hk]
    rw [er]
    have HK := Lib.hid hk
    clear er hk
    go_enter Try.func49, Try.ntmps49
    go_wp2_with (first
      | (go_at_call 37; refine (valid_any _ _).mono ?_; rintro e w1 ⟨rfl, hb1⟩; rw [HK.out]; have hc1 := hb1.cells))
    have hcell : w1.cell? ⟨w.heap.size, 0, none⟩ = some (.int .u64 p) := hb1.hold (by go_simp)
    clear hc1
    go_region_held3 (fun w' => w'.cell? ⟨w.heap.size, 0, none⟩ = some (.int .u64 p))
      (first | assumption | exact Nw.hold ‹_› ‹_›)
      (first
        | (go_at_call 43; refine (reduce_small _ _ (by omega) (by omega) (by omega) (by omega) _).mono ?_; rintro e w2 ⟨rfl, hb2⟩)
        | (go_at_call 57; refine (add_small _ _ _ (by omega) (by omega) (by omega) (by omega) (by omega) (by omega) _).mono ?_; rintro e w2 ⟨rfl, hb2⟩))
    go_wp2
    go_ret
    refine ⟨ret_int (by first | rfl | exact (Int.mul_emod _ _ _).symm | simp), by (repeat (first | exact Nw.refl _ _ | refine Nw.drew ?_ | refine Nw.made (Nat.le_refl _) ?_ _ _ | refine Nw.next (Nat.le_refl _) ?_ (by assumption)))⟩
  · have er : ad p a b = 0 := by rw [ad, if_neg hk]
    rw [er]
    have HK := Lib.hid (show known p = false by simpa using hk)
    clear er hk
    go_enter Try.func49, Try.ntmps49
    go_wp2_with (go_at_call 37; refine (valid_any _ _).mono ?_; rintro e w1 ⟨rfl, hb1⟩; rw [HK.out])
    go_ret
    exact ⟨rfl, by (repeat (first | exact Nw.refl _ _ | refine Nw.drew ?_ | refine Nw.made (Nat.le_refl _) ?_ _ _ | refine Nw.next (Nat.le_refl _) ?_ (by assumption)))⟩

set_option maxHeartbeats 1000000 in
theorem fMul_any (p a b : Int) (ha : 0 ≤ a) (ha' : a ≤ 18446744073709551615) (hb : 0 ≤ b) (hb' : b ≤ 18446744073709551615) (w : World) :
    Calls Try.prog 31 #[.agg #[.int .u64 p], .int .u64 a, .int .u64 b] w fun e w' => e = .returned (.int .u64 (ml p a b)) ∧ Nw w.heap.size w w' := by
  by_cases hk : known p = true
  · have hpl := known_lo hk
    have hph := known_hi hk
    have ra := red_lo (n := a) hpl
    have ra' := red_hi (n := a) hpl
    have rb := red_lo (n := b) hpl
    have rb' := red_hi (n := b) hpl
    have er : ml p a b = a * b % p := by rw [ml, if_pos hk]
    rw [er]
    have HK := Lib.hid hk
    clear er hk
    go_enter Try.func31, Try.ntmps31
    go_wp2_with (first
      | (go_at_call 37; refine (valid_any _ _).mono ?_; rintro e w1 ⟨rfl, hb1⟩; rw [HK.out]; have hc1 := hb1.cells))
    have hcell : w1.cell? ⟨w.heap.size, 0, none⟩ = some (.int .u64 p) := hb1.hold (by go_simp)
    clear hc1
    go_region_held3 (fun w' => w'.cell? ⟨w.heap.size, 0, none⟩ = some (.int .u64 p))
      (first | assumption | exact Nw.hold ‹_› ‹_›)
      (first
        | (go_at_call 43; refine (reduce_small _ _ (by omega) (by omega) (by omega) (by omega) _).mono ?_; rintro e w2 ⟨rfl, hb2⟩)
        | (go_at_call 44; refine (mul_small _ _ _ (by exact HK.out) (by omega) (by omega) (by omega) (by omega) _).mono ?_; rintro e w2 ⟨rfl, hb2⟩))
    go_wp2
    go_ret
    refine ⟨ret_int (by first | rfl | exact (Int.mul_emod _ _ _).symm | simp), by (repeat (first | exact Nw.refl _ _ | refine Nw.drew ?_ | refine Nw.made (Nat.le_refl _) ?_ _ _ | refine Nw.next (Nat.le_refl _) ?_ (by assumption)))⟩
  · have er : ml p a b = 0 := by rw [ml, if_neg hk]
    rw [er]
    have HK := Lib.hid (show known p = false by simpa using hk)
    clear er hk
    go_enter Try.func31, Try.ntmps31
    go_wp2_with (go_at_call 37; refine (valid_any _ _).mono ?_; rintro e w1 ⟨rfl, hb1⟩; rw [HK.out])
    go_ret
    exact ⟨rfl, by (repeat (first | exact Nw.refl _ _ | refine Nw.drew ?_ | refine Nw.made (Nat.le_refl _) ?_ _ _ | refine Nw.next (Nat.le_refl _) ?_ (by assumption)))⟩


set_option maxHeartbeats 1000000 in
theorem fSub_any (p a b : Int) (ha : 0 ≤ a) (ha' : a ≤ 18446744073709551615) (hb : 0 ≤ b) (hb' : b ≤ 18446744073709551615) (w : World) :
    Calls Try.prog 56 #[.agg #[.int .u64 p], .int .u64 a, .int .u64 b] w fun e w' => e = .returned (.int .u64 (sb p a b)) ∧ Nw w.heap.size w w' := by
  by_cases hk : known p = true
  · have hpl := known_lo hk
    have hph := known_hi hk
    have ra := red_lo (n := a) hpl
    have ra' := red_hi (n := a) hpl
    have rb := red_lo (n := b) hpl
    have rb' := red_hi (n := b) hpl
    by_cases hlt : b % p ≤ a % p
    · have er : sb p a b = a % p - b % p := by rw [sb, if_pos hk, Int.sub_emod]; exact Int.emod_eq_of_lt (by omega) (by omega)
      rw [er]
      have HK := Lib.hid hk
      clear er hk
      go_enter Try.func56, Try.ntmps56
      go_wp2_with (first
        | (go_at_call 37; refine (valid_any _ _).mono ?_; rintro e w1 ⟨rfl, hb1⟩; rw [HK.out]; have hc1 := hb1.cells))
      have hcell : w1.cell? ⟨w.heap.size, 0, none⟩ = some (.int .u64 p) := hb1.hold (by go_simp)
      clear hc1
      go_region_held3 (fun w' => w'.cell? ⟨w.heap.size, 0, none⟩ = some (.int .u64 p))
        (first | assumption | exact Nw.hold ‹_› ‹_›)
        (first
          | (go_at_call 43; refine (reduce_small _ _ (by omega) (by omega) (by omega) (by omega) _).mono ?_; rintro e w2 ⟨rfl, hb2⟩))
      go_wp2
      go_ret
      exact ⟨rfl, by (repeat (first | exact Nw.refl _ _ | refine Nw.drew ?_ | refine Nw.made (Nat.le_refl _) ?_ _ _ | refine Nw.next (Nat.le_refl _) ?_ (by assumption)))⟩
    · have er : sb p a b = p - (b % p - a % p) := by
        rw [sb, if_pos hk, Int.sub_emod, show a % p - b % p = p - (b % p - a % p) - p from by omega, Int.sub_emod_right]; exact Int.emod_eq_of_lt (by omega) (by omega)
      rw [er]
      have HK := Lib.hid hk
      clear er hk
      go_enter Try.func56, Try.ntmps56
      go_wp2_with (first
        | (go_at_call 37; refine (valid_any _ _).mono ?_; rintro e w1 ⟨rfl, hb1⟩; rw [HK.out]; have hc1 := hb1.cells))
      have hcell : w1.cell? ⟨w.heap.size, 0, none⟩ = some (.int .u64 p) := hb1.hold (by go_simp)
      clear hc1
      go_region_held3 (fun w' => w'.cell? ⟨w.heap.size, 0, none⟩ = some (.int .u64 p))
        (first | assumption | exact Nw.hold ‹_› ‹_›)
        (first
          | (go_at_call 43; refine (reduce_small _ _ (by omega) (by omega) (by omega) (by omega) _).mono ?_; rintro e w2 ⟨rfl, hb2⟩))
      go_wp2
      go_ret
      exact ⟨rfl, by (repeat (first | exact Nw.refl _ _ | refine Nw.drew ?_ | refine Nw.made (Nat.le_refl _) ?_ _ _ | refine Nw.next (Nat.le_refl _) ?_ (by assumption)))⟩
  · have er : sb p a b = 0 := by rw [sb, if_neg hk]
    rw [er]
    have HK := Lib.hid (show known p = false by simpa using hk)
    clear er hk
    go_enter Try.func56, Try.ntmps56
    go_wp2_with (go_at_call 37; refine (valid_any _ _).mono ?_; rintro e w1 ⟨rfl, hb1⟩; rw [HK.out])
    go_ret
    exact ⟨rfl, by (repeat (first | exact Nw.refl _ _ | refine Nw.drew ?_ | refine Nw.made (Nat.le_refl _) ?_ _ _ | refine Nw.next (Nat.le_refl _) ?_ (by assumption)))⟩

end Go.Proofs.Ytnmbggdfcgbniaa
