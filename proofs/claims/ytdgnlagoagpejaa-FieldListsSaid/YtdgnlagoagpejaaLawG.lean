/- The walk of package field's Powers, and of the statement on it. -/
import Derived.Test.YtdgnlagoagpejaaLawC
import Derived.Laws.MakeOwn
import Derived.Laws.NewBlocks
namespace Go.Proofs.Ytdgnlagoagpejaa
open Go.RowKit

theorem ne_block {b c i j : Nat} (h : b ≠ c) : (⟨b, i, none⟩ : Addr) ≠ ⟨c, j, none⟩ := by
  intro e; exact h (congrArg Addr.block e)
theorem ne_off {b i j : Nat} (h : i ≠ j) : (⟨b, i, none⟩ : Addr) ≠ ⟨b, j, none⟩ := by
  intro e; exact h (congrArg Addr.off e)
theorem made_some (w : World) (n : Nat) : ∀ i, i < n → ∃ v, (w.alloc (.cells (madeCells #[.int .u64 0] (n * Try.t22.size)) 22)).cell? ⟨w.heap.size, i, none⟩ = some v := by
  intro i hi
  rw [World.cell?_alloc_new]
  have hs : (madeCells #[.int .u64 0] (n * Try.t22.size)).size = n := by rw [size_madeCells]; exact Nat.mul_one n
  exact ⟨_, Array.getElem?_eq_getElem (by omega)⟩
theorem Nw.stored {B : Nat} {a w : World} (h : Nw B a w) {p : Addr} (hp : B ≤ p.block) (u : Value) : Nw B a (w.setCell p u) :=
  ⟨h.b.setCell hp u, fun x => (World.frozen?_setCell _ _ _ _).trans (h.f x)⟩

set_option maxHeartbeats 4000000 in
theorem fPowers_yes (p a : Int) (n : Nat) (hk : known p = true) (ha : 0 ≤ a) (ha' : a ≤ 18446744073709551615) (hn : n ≤ 65536) (w : World) :
    Calls Try.prog 46 #[.agg #[.int .u64 p], .int .u64 a, .int .i64 n] w fun e w' => ∃ b c, e = .returned (.slice (some ⟨b, 0, none⟩) n c) ∧ (∀ i, i < n → w'.cell? ⟨b, i, none⟩ = some (.int .u64 (a ^ i % p))) ∧ Nw w.heap.size w w' := by
  have hpl := known_lo hk
  have hph := known_hi hk
  have ra := red_lo (n := a) hpl
  have ra' := red_hi (n := a) hpl
  have n0 : 0 ≤ (n : Int) := by omega
  have n1 : (n : Int) ≤ 65536 := by omega
  have hmk := fun w => run_make (P := Try.prog) w 33 22 Try.t22 (.int .u64 0) Try.underlying33 (by kernel_rfl) (by kernel_rfl) .i64 .i64 n n n0 (Int.le_refl _) (by show ((8 : Nat) : Int) * n ≤ _; omega) (by omega)
  have HK := Lib.hid hk
  clear hk
  go_enter Try.func46, Try.ntmps46
  go_wp2_with (first
    | (go_at_call 31; refine (valid_any _ _).mono ?_; rintro e w1 ⟨rfl, hb1⟩; rw [HK.out]; have hc1 := hb1.cells)
    | (go_at_call 47; refine (reduce_small _ _ (by omega) (by omega) (by omega) (by omega) _).mono ?_; rintro e w2 ⟨rfl, hb2⟩))
  have hcell : w2.cell? ⟨w.heap.size, 0, none⟩ = some (.int .u64 p) := hb2.hold (hb1.hold (by go_simp))
  have hnw : Nw w.heap.size w w2 := by (repeat (first | exact Nw.refl _ _ | refine Nw.drew ?_ | refine Nw.drewN ?_ _ | refine Nw.made (Nat.le_refl _) ?_ _ _ | refine Nw.next (Nat.le_refl _) ?_ (by assumption)))
  have hz : w.heap.size < w2.heap.size := by have := hb1.b.size; have := hb2.b.size; simp at *; omega
  clear hc1 hb1 hb2
  go_wp2_with fail
  have c0 : (w2.alloc (.cells (madeCells #[.int .u64 0] (n * Try.t22.size)) 22)).cell? ⟨w.heap.size, 0, none⟩ = some (.int .u64 p) := ((Nw.refl _ _).made (Nat.le_refl _) _ _).hold hcell
  have h1 := Lib.hid (made_some w2 n)
  have h2 := Lib.hid (fun i => World.frozen?_alloc_new w2 (madeCells #[.int .u64 0] (n * Try.t22.size)) 22 i)
  have h3 : Nw w.heap.size w (w2.alloc (.cells (madeCells #[.int .u64 0] (n * Try.t22.size)) 22)) := hnw.made (Nat.le_refl _) _ _
  obtain ⟨B, hB⟩ : ∃ B, B = w2.heap.size := ⟨_, rfl⟩
  rw [← hB] at hz h1 h2 ⊢
  clear hmk hcell hnw hB
  generalize w2.alloc (.cells (madeCells #[.int .u64 0] (n * Try.t22.size)) 22) = W0 at *
  go_loopw [8, 28] (fun pv iv wr => ∃ k : Nat, pv = .int .u64 (a ^ k % p) ∧ iv = .int .i64 k ∧ k ≤ n ∧ wr.cell? ⟨w.heap.size, 0, none⟩ = some (.int .u64 p) ∧ Hid (∀ i, i < k → wr.cell? ⟨B, i, none⟩ = some (.int .u64 (a ^ i % p))) ∧
      Hid (∀ i, i < n → ∃ v, wr.cell? ⟨B, i, none⟩ = some v) ∧ Hid (∀ i, wr.frozen? ⟨B, i, none⟩ = false) ∧ Nw w.heap.size w wr) (fun _ iv _ => n - (intOf iv).toNat)
  case atStart => exact ⟨0, by rw [Int.pow_zero, Int.emod_eq_of_lt (by omega) (by omega)], rfl, Nat.zero_le _, c0, fun i hi => absurd hi (Nat.not_lt_zero _), h1, h2, h3⟩
  case round =>
    obtain ⟨k, rfl, rfl, hk, hcr, H1, H2, H3, hnr⟩ := hrel
    clear c0 h1 h2 h3
    have pk0 := red_lo (n := a ^ k) hpl
    have pk1 := red_hi (n := a ^ k) hpl
    by_cases hlt : k < n
    · obtain ⟨v, hv⟩ := H2.out k hlt
      have hf := H3.out k
      have i0 : (0 : Int) ≤ (k : Int) := by omega
      have i1 : (k : Int) < (n : Int) := by omega
      have hcs : (wr.setCell ⟨B, k, none⟩ (.int .u64 (a ^ k % p))).cell? ⟨w.heap.size, 0, none⟩ = some (.int .u64 p) := (World.cell?_setCell_other _ _ _ _ (ne_block (by omega))).trans hcr
      go_wp2_with (go_at_call 49; refine (mul_small _ _ _ HK.out (by omega) (by omega) (by omega) (by omega) _).mono ?_; rintro e w3 ⟨rfl, hb3⟩)
      refine ⟨⟨k + 1, ?_, rfl, by omega, hb3.hold hcs, ?_, ?_, ?_, ?_⟩, by simp [intOf]; omega⟩
      · rw [Int.pow_succ, ← Int.mul_emod]
      · intro i hi
        by_cases hik : i = k
        · subst hik; exact hb3.hold (World.cell?_setCell_same _ _ _ hv)
        · exact hb3.hold ((World.cell?_setCell_other _ _ _ _ (ne_off (fun h => hik h.symm))).trans (H1.out i (by omega)))
      · intro i hi
        by_cases hik : i = k
        · subst hik; exact ⟨_, hb3.hold (World.cell?_setCell_same _ _ _ hv)⟩
        · obtain ⟨u, hu⟩ := H2.out i hi
          exact ⟨u, hb3.hold ((World.cell?_setCell_other _ _ _ _ (ne_off (fun h => hik h.symm))).trans hu)⟩
      · intro i
        rw [hb3.f, World.frozen?_setCell]; exact H3.out i
      · exact Nw.next (Nat.le_refl _) (hnr.stored (Nat.le_of_lt hz) _) hb3
    · obtain rfl : k = n := by omega
      go_wp2_with fail
      go_ret
      exact ⟨_, _, rfl, H1.out, hnr⟩

set_option maxHeartbeats 4000000 in
theorem fPowers_no (p a n : Int) (h : known p = false ∨ n < 0 ∨ 65536 < n) (w : World) :
    Calls Try.prog 46 #[.agg #[.int .u64 p], .int .u64 a, .int .i64 n] w fun e w' => e = .returned (.slice none 0 0) ∧ Nw w.heap.size w w' := by
  by_cases hk : known p = true
  · have HK := Lib.hid hk
    by_cases hneg : n < 0
    · clear h hk
      go_enter Try.func46, Try.ntmps46
      go_wp2_with (go_at_call 31; refine (valid_any _ _).mono ?_; rintro e w1 ⟨rfl, hb1⟩; rw [HK.out]; have hc1 := hb1.cells)
      go_ret
      exact ⟨rfl, by (repeat (first | exact Nw.refl _ _ | refine Nw.drew ?_ | refine Nw.drewN ?_ _ | refine Nw.made (Nat.le_refl _) ?_ _ _ | refine Nw.next (Nat.le_refl _) ?_ (by assumption)))⟩
    · have hbig : 65536 < n := by
        rcases h with h | h | h
        · rw [hk] at h; exact absurd h (by decide)
        · exact absurd h hneg
        · exact h
      clear h hk
      go_enter Try.func46, Try.ntmps46
      go_wp2_with (go_at_call 31; refine (valid_any _ _).mono ?_; rintro e w1 ⟨rfl, hb1⟩; rw [HK.out]; have hc1 := hb1.cells)
      go_ret
      exact ⟨rfl, by (repeat (first | exact Nw.refl _ _ | refine Nw.drew ?_ | refine Nw.drewN ?_ _ | refine Nw.made (Nat.le_refl _) ?_ _ _ | refine Nw.next (Nat.le_refl _) ?_ (by assumption)))⟩
  · have HK := Lib.hid (show known p = false by simpa using hk)
    clear h hk
    go_enter Try.func46, Try.ntmps46
    go_wp2_with (go_at_call 31; refine (valid_any _ _).mono ?_; rintro e w1 ⟨rfl, hb1⟩; rw [HK.out]; have hc1 := hb1.cells)
    go_ret
    exact ⟨rfl, by (repeat (first | exact Nw.refl _ _ | refine Nw.drew ?_ | refine Nw.drewN ?_ _ | refine Nw.made (Nat.le_refl _) ?_ _ _ | refine Nw.next (Nat.le_refl _) ?_ (by assumption)))⟩

set_option maxHeartbeats 4000000 in
theorem law_powers_mid (p a n : Int) (h0 : 300 < n) (h1 : n ≤ 65536) (w : World) :
    Calls Try.prog 9 #[.int .u64 p, .int .u64 a, .int .i64 n] w fun e w' => e = .returned (.bool true) ∧ Nw w.heap.size w w' := by
  go_enter Try.func9, Try.ntmps9
  go_wp2_with (go_at_call 12; refine (awake_any _).mono ?_; rintro e w1 ⟨rfl, hb1⟩)
  go_ret
  exact ⟨rfl, by (repeat (first | exact Nw.refl _ _ | refine Nw.drew ?_ | refine Nw.drewN ?_ _ | refine Nw.made (Nat.le_refl _) ?_ _ _ | refine Nw.next (Nat.le_refl _) ?_ (by assumption)))⟩

set_option maxHeartbeats 4000000 in
theorem law_powers_no (p a n : Int) (h : known p = false ∨ n < 0 ∨ 65536 < n) (hm : n ≤ 300 ∨ 65536 < n) (w : World) :
    Calls Try.prog 9 #[.int .u64 p, .int .u64 a, .int .i64 n] w fun e w' => e = .returned (.bool true) ∧ Nw w.heap.size w w' := by
  have H := Lib.hid h
  by_cases hbig : 65536 < n
  · clear h hm
    go_enter Try.func9, Try.ntmps9
    go_wp2_with (first
      | (go_at_call 12; refine (awake_any _).mono ?_; rintro e w1 ⟨rfl, hb1⟩)
      | (go_at_call 46; refine (fPowers_no _ _ _ (by exact H.out) _).mono ?_; rintro e w2 ⟨rfl, hb2⟩))
    go_ret
    exact ⟨rfl, by (repeat (first | exact Nw.refl _ _ | refine Nw.drew ?_ | refine Nw.drewN ?_ _ | refine Nw.made (Nat.le_refl _) ?_ _ _ | refine Nw.next (Nat.le_refl _) ?_ (by assumption)))⟩
  · have h3 : n ≤ 300 := by omega
    by_cases hneg : n < 0
    · clear h hm
      go_enter Try.func9, Try.ntmps9
      go_wp2_with (first
        | (go_at_call 12; refine (awake_any _).mono ?_; rintro e w1 ⟨rfl, hb1⟩)
        | (go_at_call 46; refine (fPowers_no _ _ _ (by exact H.out) _).mono ?_; rintro e w2 ⟨rfl, hb2⟩))
      go_ret
      exact ⟨rfl, by (repeat (first | exact Nw.refl _ _ | refine Nw.drew ?_ | refine Nw.drewN ?_ _ | refine Nw.made (Nat.le_refl _) ?_ _ _ | refine Nw.next (Nat.le_refl _) ?_ (by assumption)))⟩
    · have hk : known p = false := by
        rcases h with h | h | h
        · exact h
        · exact absurd h hneg
        · exact absurd h hbig
      have HK := Lib.hid hk
      clear h hm hk
      go_enter Try.func9, Try.ntmps9
      go_wp2_with (first
        | (go_at_call 12; refine (awake_any _).mono ?_; rintro e w1 ⟨rfl, hb1⟩)
        | (go_at_call 32; refine (rValid_any _ _).mono ?_; rintro e w3 ⟨rfl, hb3⟩; rw [HK.out])
        | (go_at_call 46; refine (fPowers_no _ _ _ (by exact H.out) _).mono ?_; rintro e w2 ⟨rfl, hb2⟩))
      go_ret
      exact ⟨rfl, by (repeat (first | exact Nw.refl _ _ | refine Nw.drew ?_ | refine Nw.drewN ?_ _ | refine Nw.made (Nat.le_refl _) ?_ _ _ | refine Nw.next (Nat.le_refl _) ?_ (by assumption)))⟩

set_option maxHeartbeats 4000000 in
theorem law_powers_yes (p a : Int) (n : Nat) (hk : known p = true) (ha : 0 ≤ a) (ha' : a ≤ 18446744073709551615) (hn : n ≤ 300) (w : World) :
    Calls Try.prog 9 #[.int .u64 p, .int .u64 a, .int .i64 n] w fun e w' => e = .returned (.bool true) ∧ Nw w.heap.size w w' := by
  have hpl := known_lo hk
  have hph := known_hi hk
  have n0 : 0 ≤ (n : Int) := by omega
  have n1 : (n : Int) ≤ 300 := by omega
  have HK := Lib.hid hk
  clear hk
  go_enter Try.func9, Try.ntmps9
  go_wp2_with (first
    | (go_at_call 12; refine (awake_any _).mono ?_; rintro e w1 ⟨rfl, hb1⟩)
    | (go_at_call 32; refine (rValid_any _ _).mono ?_; rintro e w3 ⟨rfl, hb3⟩; rw [HK.out])
    | (go_at_call 46; refine (fPowers_yes _ _ n (by exact HK.out) (by omega) (by omega) (by omega) _).mono ?_; rintro e w2 ⟨B, c, rfl, hcs, hb2⟩; have HC := Lib.hid hcs; clear hcs))
  have HC3 := Lib.hid (fun i hi => hb3.hold (HC.out i hi))
  have hnw : Nw w.heap.size w w3 := by (repeat (first | exact Nw.refl _ _ | refine Nw.drew ?_ | refine Nw.drewN ?_ _ | refine Nw.made (Nat.le_refl _) ?_ _ _ | refine Nw.next (Nat.le_refl _) ?_ (by assumption)))
  clear HC hb1 hb2 hb3
  go_loopw [8, 47] (fun xv iv wr => ∃ k : Nat, xv = .int .u64 (a ^ k % p) ∧ iv = .int .i64 k ∧ k ≤ n ∧ Hid (∀ i, i < n → wr.cell? ⟨B, i, none⟩ = some (.int .u64 (a ^ i % p))) ∧ Nw w.heap.size w wr) (fun _ iv _ => n - (intOf iv).toNat)
  case atStart => exact ⟨0, by rw [Int.pow_zero, Int.emod_eq_of_lt (by omega) (by omega)], rfl, Nat.zero_le _, HC3.out, hnw⟩
  case round =>
    obtain ⟨k, rfl, rfl, hk, H1, hnr⟩ := hrel
    clear HC3 hnw
    have pk0 := red_lo (n := a ^ k) hpl
    have pk1 := red_hi (n := a ^ k) hpl
    by_cases hlt : k < n
    · have hv := H1.out k hlt
      have i0 : (0 : Int) ≤ (k : Int) := by omega
      have i1 : (k : Int) < (n : Int) := by omega
      go_wp2_with (go_at_call 22; refine (rMul_any _ _ _ (by omega) (by omega) (by omega) (by omega) _).mono ?_; rintro e w4 ⟨rfl, hb4⟩; rw [ml_small HK.out])
      refine ⟨⟨k + 1, ?_, rfl, by omega, fun i hi => hb4.hold (H1.out i hi), Nw.next (Nat.le_refl _) hnr hb4⟩, by simp [intOf]; omega⟩
      rw [Int.pow_succ, Int.mul_emod, Int.emod_emod, ← Int.mul_emod]
    · obtain rfl : k = n := by omega
      go_wp2_with fail
      go_ret
      exact ⟨rfl, hnr⟩

theorem law_powers (p a n : Int) (ha : 0 ≤ a) (ha' : a ≤ 18446744073709551615) (w : World) :
    Calls Try.prog 9 #[.int .u64 p, .int .u64 a, .int .i64 n] w fun e w' => e = .returned (.bool true) ∧ Nw w.heap.size w w' := by
  by_cases hmid : 300 < n ∧ n ≤ 65536
  · exact law_powers_mid p a n hmid.1 hmid.2 w
  · by_cases h : known p = false ∨ n < 0 ∨ 65536 < n
    · exact law_powers_no p a n h (by omega) w
    · have hk : known p = true := by
        cases hk : known p with
        | true => rfl
        | false => exact absurd (Or.inl hk) h
      obtain ⟨m, rfl⟩ := Int.eq_ofNat_of_zero_le (show 0 ≤ n by omega)
      exact law_powers_yes p a m hk ha ha' (by omega) w
end Go.Proofs.Ytdgnlagoagpejaa
