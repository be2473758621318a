/- Package field's Powers, as a list of the call's own. -/
import Derived.Test.YtdcdaclkeocfpaaOB
namespace Go.Proofs.Ytdcdaclkeocfpaa
open Go.RowKit Go.BigFrame
open Classical

/-- The first powers. -/
def powL (p a : Int) (n : Nat) : List Int := (List.range n).map fun i => a ^ i % p
theorem powL_len (p a : Int) (n : Nat) : (powL p a n).length = n := by simp [powL]
theorem powL_at {p a : Int} {n i : Nat} (h : i < (powL p a n).length) : (powL p a n)[i] = a ^ i % p := by simp [powL]
theorem updK_powL (p a : Int) (n : Nat) : updK (fun i => a ^ i % p) (List.replicate n 0) 0 n = powL p a n := by
  refine List.ext_getElem (by rw [updK_len, powL_len]; simp) fun i h1 h2 => ?_
  rw [updK_len] at h1
  simp at h1
  simp only [updK, powL, List.getElem_map, List.getElem_range]
  rw [if_pos (by omega)]

set_option maxHeartbeats 4000000 in
theorem fPowers_o (p a : Int) (n : Nat) [ha : U a] (hk : known p = true) (hn : n ≤ 65536) (w : World) :
    Calls Try.prog 93 #[.agg #[.int .u64 p], .int .u64 a, .int .i64 n] w (Gives w (powL p a n)) := by
  have hpl := known_lo hk
  have hph := known_hi hk
  have ha0 := ha.lo
  have ha1 := ha.hi
  have ra := red_lo (n := a) hpl
  have ra' := red_hi (n := a) hpl
  have n0 : 0 ≤ (n : Int) := by omega
  have n1 : (n : Int) ≤ 65536 := by omega
  have hup := updK_powL p a n
  have HK := Lib.hid (And.intro hk hup)
  clear hk hup
  go_enter Try.func93, Try.ntmps93
  go_upto_region 3 with (first
    | (go_at_call 75; refine (valid_any _ _).mono ?_; rintro e w1 ⟨rfl, hb1⟩; rw [HK.out.1]; have hc1 := hb1.cells))
  go_upto_region 4 with (first
    | (go_at_call 77; refine (reduce_small _ _ (by omega) (by omega) (by omega) (by omega) _).mono ?_; rintro e w2 ⟨rfl, hb2⟩))
  have hcell : w2.cell? ⟨w.heap.size, 0, none⟩ = some (.int .u64 p) := hb2.hold (hb1.hold (by go_simp))
  have hnw : Nw w.heap.size w w2 := by (repeat (first | exact Nw.refl _ _ | refine Nw.drew ?_ | refine Nw.drewN ?_ _ | refine Nw.made (Nat.le_refl _) ?_ _ _ | refine Nw.next (Nat.le_refl _) ?_ (by assumption)))
  have HB := Lib.hid hnw.b
  have hz : w.heap.size < w2.heap.size := by have := hb1.b.size; have := hb2.b.size; simp at *; omega
  clear hc1 hb1 hb2 hnw
  go_upto_region 5 with (at_make; refine make_zeros rfl (.tmp 24) (.tmp 24) rfl w2.heap.size n rfl rfl (by omega) (Nat.le_refl _) ?_; intro v3 w3 hown3 hv3 hb3; subst hv3)
  obtain ⟨g, hg⟩ : ∃ g, g = w2.heap.size := ⟨_, rfl⟩
  rw [← hg] at hown3 hz ⊢
  have HO := Lib.hid (And.intro hown3 (And.intro hb3 (And.intro hg hcell)))
  clear hown3 hb3 hcell hg
  go_wp2
  go_loopw [8, 28] (fun pv iv wr => ∃ k : Nat, pv = .int .u64 (a ^ k % p) ∧ iv = .int .i64 k ∧ k ≤ n ∧ Own wr w2.heap.size (.slice (some ⟨g, 0, none⟩) n n) (updK (fun i => a ^ i % p) (List.replicate n 0) 0 k) ∧ Below w2.heap.size w2 wr) (fun _ iv _ => n - (intOf iv).toNat)
  case atStart => exact ⟨0, by rw [Int.pow_zero, Int.emod_eq_of_lt (by omega) (by omega)], rfl, Nat.zero_le _, by rw [updK_zero]; have h := HO.out.1; rwa [HO.out.2.2.1] at h ⊢, HO.out.2.1⟩
  case round =>
    obtain ⟨k, rfl, rfl, hk, hown, hb⟩ := hrel
    have hcr := Below.hold hb HO.out.2.2.2
    have pk0 := red_lo (n := a ^ k) hpl
    have pk1 := red_hi (n := a ^ k) hpl
    have i0 : (0 : Int) ≤ (k : Int) := by omega
    by_cases hlt : k < n
    · have hkl : k < (List.replicate n (0 : Int)).length := by simp; exact hlt
      have hc : wr.cell? ⟨g, k, none⟩ = some (.int .u64 0) := by rw [hown.cell (i := k) (by rw [updK_len]; exact hkl), updK_at0 hkl]; simp
      have hf := hown.thawed k
      have hset := updK_set0 (f := fun i => a ^ i % p) (L := List.replicate n 0) (k := k)
      have hnext : a ^ k % p * (a % p) % p = a ^ (k + 1) % p := by rw [Int.pow_succ, ← Int.mul_emod]
      obtain ⟨y, hy⟩ : ∃ y, y = a ^ k % p := ⟨_, rfl⟩
      have hyU : U y := ⟨by omega, by omega⟩
      rw [← hy] at hset hnext pk0 pk1 ⊢
      have hcs : (wr.setCell ⟨g, k, none⟩ (.int .u64 y)).cell? ⟨w.heap.size, 0, none⟩ = some (.int .u64 p) := (World.cell?_setCell_other _ _ _ _ (by intro e; have := congrArg Addr.block e; simp at this; omega)).trans hcr
      have hs := hown.set k y
      have hbs := Below.wrote hb (Nat.le_refl _) hb.size hown hs.2
      have i1 : (k : Int) < (n : Int) := by omega
      have HV := Lib.hid (And.intro hs.1 (And.intro hbs (And.intro hset hnext)))
      clear hs hbs hset hnext hown hb hy hkl
      go_wp2_with (go_at_call 76; refine (mul_small _ _ _ HK.out.1 (by omega) (by omega) (by omega) (by omega) _).mono ?_; rintro e w4 ⟨rfl, hb4⟩)
      exact ⟨⟨k + 1, by rw [HV.out.2.2.2], by go_num, by omega, by rw [← HV.out.2.2.1]; exact HV.out.1.hold hb4.b, Below.next (Nat.le_refl _) HV.out.2.1 hb4.b⟩, by simp [intOf]; omega⟩
    · obtain rfl : k = n := by omega
      rw [HK.out.2] at hown
      have HV := Lib.hid (And.intro hown hb)
      clear hown hb
      go_wp2
      go_ret
      exact ⟨_, rfl, HV.out.1.low HB.out.size, Below.next (Nat.le_refl _) HB.out HV.out.2⟩
end Go.Proofs.Ytdcdaclkeocfpaa
