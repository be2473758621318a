/- The walks of the tables, and of the reference's small functions. The walks of the accessors of the tables, of the reference's sums, and of the choice of a prime. -/
import Derived.Test.YtdcdaclkeocfpaaBase
namespace Go.Proofs.Ytdcdaclkeocfpaa
open Go.RowKit

def gen (p : Int) : Int := if p == 17 then 3 else if p == 97 then 5 else if p == 193 then 5 else if p == 257 then 3 else if p == 12289 then 11 else if p == 65537 then 3 else if p == 18446744069414584321 then 7 else 0
def adi (p : Int) : Int := if p == 17 then 4 else if p == 97 then 5 else if p == 193 then 6 else if p == 257 then 8 else if p == 12289 then 12 else if p == 65537 then 16 else if p == 18446744069414584321 then 32 else 0
def exn (p : Int) : Int := if p == 17 then 3 else if p == 97 then 5 else if p == 193 then 5 else if p == 257 then 3 else if p == 12289 then 5 else if p == 65537 then 3 else if p == 18446744069414584321 then 7 else 0
theorem gen_none {p : Int} (h : known p = false) : gen p = 0 ∧ adi p = 0 ∧ exn p = 0 := by
  obtain ⟨h1, h2, h3, h4, h5, h6, h7⟩ := unknown_each h
  simp [gen, adi, exn, h1, h2, h3, h4, h5, h6, h7]

set_option maxHeartbeats 1000000 in
theorem rRow_any (p : Int) (w : World) :
    Calls Try.prog 108 #[.int .u64 p] w fun e w' => e = .returned (.agg #[.int .u64 (gen p), .int .u64 (adi p), .int .u64 (exn p)]) ∧ Nw w.heap.size w w' := by
  by_cases h : known p = true
  · rcases known_cases h with rfl | rfl | rfl | rfl | rfl | rfl | rfl
    all_goals
      clear h
      go_enter Try.func108, Try.ntmps108
      go_wp2
      go_returns
      exact ⟨rfl, by (repeat (first | exact Nw.refl _ _ | refine Nw.drew ?_ | refine Nw.made (Nat.le_refl _) ?_ _ _ | refine Nw.next (Nat.le_refl _) ?_ (by assumption)))⟩
  · have h : known p = false := by simpa using h
    obtain ⟨e1, e2, e3⟩ := gen_none h
    obtain ⟨h1, h2, h3, h4, h5, h6, h7⟩ := unknown_each h
    rw [e1, e2, e3]; clear h e1 e2 e3
    go_enter Try.func108, Try.ntmps108
    go_wp2
    go_returns
    exact ⟨rfl, by (repeat (first | exact Nw.refl _ _ | refine Nw.drew ?_ | refine Nw.made (Nat.le_refl _) ?_ _ _ | refine Nw.next (Nat.le_refl _) ?_ (by assumption)))⟩

set_option maxHeartbeats 1000000 in
theorem fFacts_any (p : Int) (w : World) :
    Calls Try.prog 96 #[.int .u64 p] w fun e w' => e = .returned (.agg #[.int .u64 (gen p), .int .i64 (adi p), .int .u64 (exn p)]) ∧ Nw w.heap.size w w' := by
  by_cases h : known p = true
  · rcases known_cases h with rfl | rfl | rfl | rfl | rfl | rfl | rfl
    all_goals
      clear h
      go_enter Try.func96, Try.ntmps96
      go_wp2
      go_returns
      exact ⟨rfl, by (repeat (first | exact Nw.refl _ _ | refine Nw.drew ?_ | refine Nw.made (Nat.le_refl _) ?_ _ _ | refine Nw.next (Nat.le_refl _) ?_ (by assumption)))⟩
  · have h : known p = false := by simpa using h
    obtain ⟨e1, e2, e3⟩ := gen_none h
    obtain ⟨h1, h2, h3, h4, h5, h6, h7⟩ := unknown_each h
    rw [e1, e2, e3]; clear h e1 e2 e3
    go_enter Try.func96, Try.ntmps96
    go_wp2
    go_returns
    exact ⟨rfl, by (repeat (first | exact Nw.refl _ _ | refine Nw.drew ?_ | refine Nw.made (Nat.le_refl _) ?_ _ _ | refine Nw.next (Nat.le_refl _) ?_ (by assumption)))⟩
end Go.Proofs.Ytdcdaclkeocfpaa

namespace Go.Proofs.Ytdcdaclkeocfpaa
open Go.RowKit

theorem gen_pos {p : Int} (h : known p = true) : 0 < gen p := by
  rcases known_cases h with rfl | rfl | rfl | rfl | rfl | rfl | rfl <;> decide

theorem facts_0 : ∀ (x y z : Int) (w : World), (Instr.field 104 (.agg #[.int .u64 x, .int .i64 y, .int .u64 z]) 0).run Try.prog w = .ok (.int .u64 x) w := fun _ _ _ _ => by kernel_rfl
theorem facts_1 : ∀ (x y z : Int) (w : World), (Instr.field 104 (.agg #[.int .u64 x, .int .i64 y, .int .u64 z]) 1).run Try.prog w = .ok (.int .i64 y) w := fun _ _ _ _ => by kernel_rfl
theorem facts_2 : ∀ (x y z : Int) (w : World), (Instr.field 104 (.agg #[.int .u64 x, .int .i64 y, .int .u64 z]) 2).run Try.prog w = .ok (.int .u64 z) w := fun _ _ _ _ => by kernel_rfl

theorem row_0 : ∀ (x y z : Int) (w : World), (Instr.index 111 (.agg #[.int .u64 x, .int .u64 y, .int .u64 z]) (.int .i64 0)).run Try.prog w = .ok (.int .u64 x) w := fun _ _ _ _ => by kernel_rfl
theorem row_1 : ∀ (x y z : Int) (w : World), (Instr.index 111 (.agg #[.int .u64 x, .int .u64 y, .int .u64 z]) (.int .i64 1)).run Try.prog w = .ok (.int .u64 y) w := fun _ _ _ _ => by kernel_rfl
theorem row_2 : ∀ (x y z : Int) (w : World), (Instr.index 111 (.agg #[.int .u64 x, .int .u64 y, .int .u64 z]) (.int .i64 2)).run Try.prog w = .ok (.int .u64 z) w := fun _ _ _ _ => by kernel_rfl

set_option maxHeartbeats 1000000 in
theorem fGenerator_any (p : Int) (w : World) :
    Calls Try.prog 57 #[.agg #[.int .u64 p]] w fun e w' => e = .returned (.int .u64 (gen p)) ∧ Nw w.heap.size w w' := by
  have hfc := facts_0
  go_enter Try.func57, Try.ntmps57
  go_wp2_with (go_at_call 96; refine (fFacts_any _ _).mono ?_; rintro e w1 ⟨rfl, hb1⟩)
  go_ret
  exact ⟨rfl, by (repeat (first | exact Nw.refl _ _ | refine Nw.drew ?_ | refine Nw.drewN ?_ _ | refine Nw.made (Nat.le_refl _) ?_ _ _ | refine Nw.next (Nat.le_refl _) ?_ (by assumption)))⟩

theorem adi_lo (p : Int) : 0 ≤ adi p ∧ adi p ≤ 32 := by unfold adi; split <;> (try split) <;> (try split) <;> (try split) <;> (try split) <;> (try split) <;> (try split) <;> omega

set_option maxHeartbeats 1000000 in
theorem rValid_any (p : Int) (w : World) :
    Calls Try.prog 79 #[.int .u64 p] w fun e w' => e = .returned (.bool (known p)) ∧ Nw w.heap.size w w' := by
  by_cases h : known p = true
  · have hg := gen_pos h
    rw [h]; clear h
    have hfc := row_0
    go_enter Try.func79, Try.ntmps79
    go_wp2_with (go_at_call 108; refine (rRow_any _ _).mono ?_; rintro e w1 ⟨rfl, hb1⟩)
    go_ret
    exact ⟨by simp, by (repeat (first | exact Nw.refl _ _ | refine Nw.drew ?_ | refine Nw.drewN ?_ _ | refine Nw.made (Nat.le_refl _) ?_ _ _ | refine Nw.next (Nat.le_refl _) ?_ (by assumption)))⟩
  · have h : known p = false := by simpa using h
    obtain ⟨e1, _, _⟩ := gen_none h
    have hg : ¬ 0 < gen p := by omega
    rw [h]; clear h e1
    have hfc := row_0
    go_enter Try.func79, Try.ntmps79
    go_wp2_with (go_at_call 108; refine (rRow_any _ _).mono ?_; rintro e w1 ⟨rfl, hb1⟩)
    go_ret
    exact ⟨by simp [hg], by (repeat (first | exact Nw.refl _ _ | refine Nw.drew ?_ | refine Nw.drewN ?_ _ | refine Nw.made (Nat.le_refl _) ?_ _ _ | refine Nw.next (Nat.le_refl _) ?_ (by assumption)))⟩

set_option maxHeartbeats 1000000 in
theorem rReduce_any (p n : Int) (hn : 0 ≤ n) (hm : n ≤ 18446744073709551615) (w : World) :
    Calls Try.prog 105 #[.int .u64 p, .int .u64 n] w fun e w' => e = .returned (.int .u64 (rd p n)) ∧ Nw w.heap.size w w' := by
  by_cases hk : known p = true
  · have hpl := known_lo hk
    have hph := known_hi hk
    have er : rd p n = n % p := by rw [rd, if_pos hk]
    rw [er]
    have HK := Lib.hid hk
    clear er hk
    go_enter Try.func105, Try.ntmps105
    go_wp2_with (go_at_call 79; refine (rValid_any _ _).mono ?_; rintro e w1 ⟨rfl, hb1⟩; rw [HK.out])
    go_ret
    exact ⟨rfl, by (repeat (first | exact Nw.refl _ _ | refine Nw.drew ?_ | refine Nw.drewN ?_ _ | refine Nw.made (Nat.le_refl _) ?_ _ _ | refine Nw.next (Nat.le_refl _) ?_ (by assumption)))⟩
  · have er : rd p n = 0 := by rw [rd, if_neg hk]
    rw [er]
    have HK := Lib.hid (show known p = false by simpa using hk)
    clear er hk
    go_enter Try.func105, Try.ntmps105
    go_wp2_with (go_at_call 79; refine (rValid_any _ _).mono ?_; rintro e w1 ⟨rfl, hb1⟩; rw [HK.out])
    go_ret
    exact ⟨rfl, by (repeat (first | exact Nw.refl _ _ | refine Nw.drew ?_ | refine Nw.drewN ?_ _ | refine Nw.made (Nat.le_refl _) ?_ _ _ | refine Nw.next (Nat.le_refl _) ?_ (by assumption)))⟩

set_option maxHeartbeats 1000000 in
theorem rAdd_any (p a b : Int) (ha : 0 ≤ a) (ha' : a ≤ 18446744073709551615) (hb : 0 ≤ b) (hb' : b ≤ 18446744073709551615) (w : World) :
    Calls Try.prog 72 #[.int .u64 p, .int .u64 a, .int .u64 b] w fun e w' => e = .returned (.int .u64 (ad p a b)) ∧ Nw w.heap.size w w' := by
  by_cases hk : known p = true
  · have hpl := known_lo hk
    have hph := known_hi hk
    have hp1 : 0 < p := by omega
    have ra := red_lo (n := a) hpl
    have ra' := red_hi (n := a) hpl
    have rb := red_lo (n := b) hpl
    have rb' := red_hi (n := b) hpl
    by_cases hlt : p - b % p ≤ a % p
    · have er : ad p a b = a % p - (p - b % p) := by
        rw [ad, if_pos hk, Int.add_emod, show a % p + b % p = a % p - (p - b % p) + p from by omega, Int.add_emod_right]; exact Int.emod_eq_of_lt (by omega) (by omega)
      rw [er]
      have HK := Lib.hid hk
      clear er hk
      go_enter Try.func72, Try.ntmps72
      go_wp2_with (go_at_call 79; refine (rValid_any _ _).mono ?_; rintro e w1 ⟨rfl, hb1⟩; rw [HK.out])
      go_quiet (fail)
      go_wp2
      go_ret
      exact ⟨rfl, by (repeat (first | exact Nw.refl _ _ | refine Nw.drew ?_ | refine Nw.drewN ?_ _ | refine Nw.made (Nat.le_refl _) ?_ _ _ | refine Nw.next (Nat.le_refl _) ?_ (by assumption)))⟩
    · have er : ad p a b = a % p + b % p := by rw [ad, if_pos hk, Int.add_emod]; exact Int.emod_eq_of_lt (by omega) (by omega)
      rw [er]
      have HK := Lib.hid hk
      clear er hk
      go_enter Try.func72, Try.ntmps72
      go_wp2_with (go_at_call 79; refine (rValid_any _ _).mono ?_; rintro e w1 ⟨rfl, hb1⟩; rw [HK.out])
      go_quiet (fail)
      go_wp2
      go_ret
      exact ⟨rfl, by (repeat (first | exact Nw.refl _ _ | refine Nw.drew ?_ | refine Nw.drewN ?_ _ | refine Nw.made (Nat.le_refl _) ?_ _ _ | refine Nw.next (Nat.le_refl _) ?_ (by assumption)))⟩
  · have er : ad p a b = 0 := by rw [ad, if_neg hk]
    rw [er]
    have HK := Lib.hid (show known p = false by simpa using hk)
    clear er hk
    go_enter Try.func72, Try.ntmps72
    go_wp2_with (go_at_call 79; refine (rValid_any _ _).mono ?_; rintro e w1 ⟨rfl, hb1⟩; rw [HK.out])
    go_ret
    exact ⟨rfl, by (repeat (first | exact Nw.refl _ _ | refine Nw.drew ?_ | refine Nw.drewN ?_ _ | refine Nw.made (Nat.le_refl _) ?_ _ _ | refine Nw.next (Nat.le_refl _) ?_ (by assumption)))⟩

theorem rd_lo {p n : Int} : 0 ≤ rd p n := by
  unfold rd; split
  · exact Int.emod_nonneg _ (by have := known_lo ‹_›; omega)
  · exact Int.le_refl _
theorem rd_hi {p n : Int} : rd p n ≤ 18446744069414584320 := by
  unfold rd; split
  · rename_i h; have := Int.emod_lt_of_pos n (show 0 < p by have := known_lo h; omega); have := known_hi h; omega
  · omega

set_option maxHeartbeats 1000000 in
theorem rNeg_any (p a : Int) (hp : 0 ≤ p) (hp' : p ≤ 18446744073709551615) (ha : 0 ≤ a) (ha' : a ≤ 18446744073709551615) (w : World) :
    Calls Try.prog 69 #[.int .u64 p, .int .u64 a] w fun e w' => e = .returned (.int .u64 (sb p 0 a)) ∧ Nw w.heap.size w w' := by
  by_cases hz : rd p a = 0
  · have er : sb p 0 a = 0 := by
      unfold rd at hz; unfold sb
      split
      · rename_i hk
        rw [if_pos hk] at hz
        rw [Int.sub_emod, hz]; simp
      · rfl
    rw [er]
    have HZ := Lib.hid hz
    clear er hz
    go_enter Try.func69, Try.ntmps69
    go_wp2_with (go_at_call 105; refine (rReduce_any _ _ (by omega) (by omega) _).mono ?_; rintro e w1 ⟨rfl, hb1⟩; rw [HZ.out])
    go_ret
    exact ⟨rfl, by (repeat (first | exact Nw.refl _ _ | refine Nw.drew ?_ | refine Nw.drewN ?_ _ | refine Nw.made (Nat.le_refl _) ?_ _ _ | refine Nw.next (Nat.le_refl _) ?_ (by assumption)))⟩
  · have hk : known p = true := by
      apply Classical.byContradiction; intro h; apply hz; rw [rd, if_neg h]
    have hpl := known_lo hk
    have e2 : rd p a = a % p := by rw [rd, if_pos hk]
    have hl := red_lo (n := a) hpl
    have hh := red_hi (n := a) hpl
    have hz' : (rd p a == 0) = false := by simpa using hz
    have hlo := @rd_lo p a
    have hhi : rd p a < p := by omega
    have er : sb p 0 a = p - rd p a := by
      rw [sb, if_pos hk, e2, Int.sub_emod, Int.zero_emod, show 0 - a % p = p - a % p - p from by omega, Int.sub_emod_right]; exact Int.emod_eq_of_lt (by omega) (by omega)
    rw [er]
    clear er hk e2 hz
    go_enter Try.func69, Try.ntmps69
    go_wp2_with (go_at_call 105; refine (rReduce_any _ _ (by omega) (by omega) _).mono ?_; rintro e w1 ⟨rfl, hb1⟩)
    go_ret
    exact ⟨rfl, by (repeat (first | exact Nw.refl _ _ | refine Nw.drew ?_ | refine Nw.drewN ?_ _ | refine Nw.made (Nat.le_refl _) ?_ _ _ | refine Nw.next (Nat.le_refl _) ?_ (by assumption)))⟩

theorem sb_lo {p a b : Int} : 0 ≤ sb p a b := by
  unfold sb; split
  · exact Int.emod_nonneg _ (by have := known_lo ‹_›; omega)
  · exact Int.le_refl _
theorem sb_hi {p a b : Int} : sb p a b ≤ 18446744069414584320 := by
  unfold sb; split
  · rename_i h; have := Int.emod_lt_of_pos (a - b) (show 0 < p by have := known_lo h; omega); have := known_hi h; omega
  · omega
theorem ad_neg {p a b : Int} : ad p a (sb p 0 b) = sb p a b := by
  unfold ad sb; split
  · rw [Int.zero_sub, Int.add_emod, Int.emod_emod, ← Int.add_emod]; rfl
  · rfl

set_option maxHeartbeats 1000000 in
theorem rSub_any (p a b : Int) (hp : 0 ≤ p) (hp' : p ≤ 18446744073709551615) (ha : 0 ≤ a) (ha' : a ≤ 18446744073709551615) (hb : 0 ≤ b) (hb' : b ≤ 18446744073709551615) (w : World) :
    Calls Try.prog 42 #[.int .u64 p, .int .u64 a, .int .u64 b] w fun e w' => e = .returned (.int .u64 (sb p a b)) ∧ Nw w.heap.size w w' := by
  have hl := @sb_lo p 0 b
  have hh := @sb_hi p 0 b
  go_enter Try.func42, Try.ntmps42
  go_wp2_with (first
    | (go_at_call 69; refine (rNeg_any _ _ (by omega) (by omega) (by omega) (by omega) _).mono ?_; rintro e w1 ⟨rfl, hb1⟩)
    | (go_at_call 72; refine (rAdd_any _ _ _ (by omega) (by omega) (by omega) (by omega) _).mono ?_; rintro e w1 ⟨rfl, hb1⟩))
  go_ret
  exact ⟨ret_int ad_neg, by (repeat (first | exact Nw.refl _ _ | refine Nw.drew ?_ | refine Nw.drewN ?_ _ | refine Nw.made (Nat.le_refl _) ?_ _ _ | refine Nw.next (Nat.le_refl _) ?_ (by assumption)))⟩
end Go.Proofs.Ytdcdaclkeocfpaa
