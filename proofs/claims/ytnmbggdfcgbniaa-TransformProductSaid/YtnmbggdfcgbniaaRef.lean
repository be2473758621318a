/- The walks of the tables, and of the reference's small functions. The walks of the accessors of the tables, of the reference's sums, and of the choice of a prime. -/
import Derived.Test.YtnmbggdfcgbniaaBase
namespace Go.Proofs.Ytnmbggdfcgbniaa
open Go.RowKit

def gen (p : Int) : Int := if p == 17 then 3 else if p == 97 then 5 else if p == 193 then 5 else if p == 257 then 3 else if p == 12289 then 11 else if p == 65537 then 3 else if p == 18446744069414584321 then 7 else 0
def adi (p : Int) : Int := if p == 17 then 4 else if p == 97 then 5 else if p == 193 then 6 else if p == 257 then 8 else if p == 12289 then 12 else if p == 65537 then 16 else if p == 18446744069414584321 then 32 else 0
def exn (p : Int) : Int := if p == 17 then 3 else if p == 97 then 5 else if p == 193 then 5 else if p == 257 then 3 else if p == 12289 then 5 else if p == 65537 then 3 else if p == 18446744069414584321 then 7 else 0
theorem gen_none {p : Int} (h : known p = false) : gen p = 0 ∧ adi p = 0 ∧ exn p = 0 := by
  obtain ⟨h1, h2, h3, h4, h5, h6, h7⟩ := unknown_each h
  simp [gen, adi, exn, h1, h2, h3, h4, h5, h6, h7]

set_option maxHeartbeats 1000000 in
theorem rRow_any (p : Int) (w : World) :
    Calls Try.prog 36 #[.int .u64 p] w fun e w' => e = .returned (.agg #[.int .u64 (gen p), .int .u64 (adi p), .int .u64 (exn p)]) ∧ Nw w.heap.size w w' := by
  by_cases h : known p = true
  · rcases known_cases h with rfl | rfl | rfl | rfl | rfl | rfl | rfl
    all_goals
      clear h
      go_enter Try.func36, Try.ntmps36
      go_wp2
      go_returns
      exact ⟨rfl, by (repeat (first | exact Nw.refl _ _ | refine Nw.drew ?_ | refine Nw.made (Nat.le_refl _) ?_ _ _ | refine Nw.next (Nat.le_refl _) ?_ (by assumption)))⟩
  · have h : known p = false := by simpa using h
    obtain ⟨e1, e2, e3⟩ := gen_none h
    obtain ⟨h1, h2, h3, h4, h5, h6, h7⟩ := unknown_each h
    rw [e1, e2, e3]; clear h e1 e2 e3
    go_enter Try.func36, Try.ntmps36
    go_wp2
    go_returns
    exact ⟨rfl, by (repeat (first | exact Nw.refl _ _ | refine Nw.drew ?_ | refine Nw.made (Nat.le_refl _) ?_ _ _ | refine Nw.next (Nat.le_refl _) ?_ (by assumption)))⟩

set_option maxHeartbeats 1000000 in
theorem fFacts_any (p : Int) (w : World) :
    Calls Try.prog 58 #[.int .u64 p] w fun e w' => e = .returned (.agg #[.int .u64 (gen p), .int .i64 (adi p), .int .u64 (exn p)]) ∧ Nw w.heap.size w w' := by
  by_cases h : known p = true
  · rcases known_cases h with rfl | rfl | rfl | rfl | rfl | rfl | rfl
    all_goals
      clear h
      go_enter Try.func58, Try.ntmps58
      go_wp2
      go_returns
      exact ⟨rfl, by (repeat (first | exact Nw.refl _ _ | refine Nw.drew ?_ | refine Nw.made (Nat.le_refl _) ?_ _ _ | refine Nw.next (Nat.le_refl _) ?_ (by assumption)))⟩
  · have h : known p = false := by simpa using h
    obtain ⟨e1, e2, e3⟩ := gen_none h
    obtain ⟨h1, h2, h3, h4, h5, h6, h7⟩ := unknown_each h
    rw [e1, e2, e3]; clear h e1 e2 e3
    go_enter Try.func58, Try.ntmps58
    go_wp2
    go_returns
    exact ⟨rfl, by (repeat (first | exact Nw.refl _ _ | refine Nw.drew ?_ | refine Nw.made (Nat.le_refl _) ?_ _ _ | refine Nw.next (Nat.le_refl _) ?_ (by assumption)))⟩
end Go.Proofs.Ytnmbggdfcgbniaa

namespace Go.Proofs.Ytnmbggdfcgbniaa
open Go.RowKit

theorem gen_pos {p : Int} (h : known p = true) : 0 < gen p := by
  rcases known_cases h with rfl | rfl | rfl | rfl | rfl | rfl | rfl <;> decide

theorem facts_0 : ∀ (x y z : Int) (w : World), (Instr.field 75 (.agg #[.int .u64 x, .int .i64 y, .int .u64 z]) 0).run Try.prog w = .ok (.int .u64 x) w := fun _ _ _ _ => by kernel_rfl
theorem facts_1 : ∀ (x y z : Int) (w : World), (Instr.field 75 (.agg #[.int .u64 x, .int .i64 y, .int .u64 z]) 1).run Try.prog w = .ok (.int .i64 y) w := fun _ _ _ _ => by kernel_rfl
theorem facts_2 : ∀ (x y z : Int) (w : World), (Instr.field 75 (.agg #[.int .u64 x, .int .i64 y, .int .u64 z]) 2).run Try.prog w = .ok (.int .u64 z) w := fun _ _ _ _ => by kernel_rfl

theorem row_0 : ∀ (x y z : Int) (w : World), (Instr.index 59 (.agg #[.int .u64 x, .int .u64 y, .int .u64 z]) (.int .i64 0)).run Try.prog w = .ok (.int .u64 x) w := fun _ _ _ _ => by kernel_rfl
theorem row_1 : ∀ (x y z : Int) (w : World), (Instr.index 59 (.agg #[.int .u64 x, .int .u64 y, .int .u64 z]) (.int .i64 1)).run Try.prog w = .ok (.int .u64 y) w := fun _ _ _ _ => by kernel_rfl
theorem row_2 : ∀ (x y z : Int) (w : World), (Instr.index 59 (.agg #[.int .u64 x, .int .u64 y, .int .u64 z]) (.int .i64 2)).run Try.prog w = .ok (.int .u64 z) w := fun _ _ _ _ => by kernel_rfl

set_option maxHeartbeats 1000000 in
theorem fGenerator_any (p : Int) (w : World) :
    Calls Try.prog 53 #[.agg #[.int .u64 p]] w fun e w' => e = .returned (.int .u64 (gen p)) ∧ Nw w.heap.size w w' := by
  have hfc := facts_0
  go_enter Try.func53, Try.ntmps53
  go_wp2_with (go_at_call 58; refine (fFacts_any _ _).mono ?_; rintro e w1 ⟨rfl, hb1⟩)
  go_ret
  exact ⟨rfl, by (repeat (first | exact Nw.refl _ _ | refine Nw.drew ?_ | refine Nw.drewN ?_ _ | refine Nw.made (Nat.le_refl _) ?_ _ _ | refine Nw.next (Nat.le_refl _) ?_ (by assumption)))⟩

set_option maxHeartbeats 1000000 in
theorem rGenerator_any (p : Int) (w : World) :
    Calls Try.prog 45 #[.int .u64 p] w fun e w' => e = .returned (.int .u64 (gen p)) ∧ Nw w.heap.size w w' := by
  have hfc := row_0
  go_enter Try.func45, Try.ntmps45
  go_wp2_with (go_at_call 36; refine (rRow_any _ _).mono ?_; rintro e w1 ⟨rfl, hb1⟩)
  go_ret
  exact ⟨rfl, by (repeat (first | exact Nw.refl _ _ | refine Nw.drew ?_ | refine Nw.drewN ?_ _ | refine Nw.made (Nat.le_refl _) ?_ _ _ | refine Nw.next (Nat.le_refl _) ?_ (by assumption)))⟩

theorem adi_lo (p : Int) : 0 ≤ adi p ∧ adi p ≤ 32 := by unfold adi; split <;> (try split) <;> (try split) <;> (try split) <;> (try split) <;> (try split) <;> (try split) <;> omega

set_option maxHeartbeats 1000000 in
theorem rValid_any (p : Int) (w : World) :
    Calls Try.prog 22 #[.int .u64 p] w fun e w' => e = .returned (.bool (known p)) ∧ Nw w.heap.size w w' := by
  by_cases h : known p = true
  · have hg := gen_pos h
    rw [h]; clear h
    have hfc := row_0
    go_enter Try.func22, Try.ntmps22
    go_wp2_with (go_at_call 36; refine (rRow_any _ _).mono ?_; rintro e w1 ⟨rfl, hb1⟩)
    go_ret
    exact ⟨by simp, by (repeat (first | exact Nw.refl _ _ | refine Nw.drew ?_ | refine Nw.drewN ?_ _ | refine Nw.made (Nat.le_refl _) ?_ _ _ | refine Nw.next (Nat.le_refl _) ?_ (by assumption)))⟩
  · have h : known p = false := by simpa using h
    obtain ⟨e1, _, _⟩ := gen_none h
    have hg : ¬ 0 < gen p := by omega
    rw [h]; clear h e1
    have hfc := row_0
    go_enter Try.func22, Try.ntmps22
    go_wp2_with (go_at_call 36; refine (rRow_any _ _).mono ?_; rintro e w1 ⟨rfl, hb1⟩)
    go_ret
    exact ⟨by simp [hg], by (repeat (first | exact Nw.refl _ _ | refine Nw.drew ?_ | refine Nw.drewN ?_ _ | refine Nw.made (Nat.le_refl _) ?_ _ _ | refine Nw.next (Nat.le_refl _) ?_ (by assumption)))⟩

set_option maxHeartbeats 1000000 in
theorem rAdd_any (p a b : Int) (ha : 0 ≤ a) (ha' : a ≤ 18446744073709551615) (hb : 0 ≤ b) (hb' : b ≤ 18446744073709551615) (w : World) :
    Calls Try.prog 25 #[.int .u64 p, .int .u64 a, .int .u64 b] w fun e w' => e = .returned (.int .u64 (ad p a b)) ∧ Nw w.heap.size w w' := by
  by_cases hk : known p = true
  · have hpl := known_lo hk
    have hph := known_hi hk
    have hp1 : 0 < p := by omega
    have ra := red_lo (n := a) hpl
    have ra' := red_hi (n := a) hpl
    have rb := red_lo (n := b) hpl
    have rb' := red_hi (n := b) hpl
    by_cases hlt : p - b % p ≤ a % p
    · have er : ad p a b = a % p - (p - b % p) := by
        rw [ad, if_pos hk, Int.add_emod, show a % p + b % p = a % p - (p - b % p) + p from by omega, Int.add_emod_right]; exact Int.emod_eq_of_lt (by omega) (by omega)
      rw [er]
      have HK := Lib.hid hk
      clear er hk
      go_enter Try.func25, Try.ntmps25
      go_wp2_with (go_at_call 22; refine (rValid_any _ _).mono ?_; rintro e w1 ⟨rfl, hb1⟩; rw [HK.out])
      go_quiet (fail)
      go_wp2
      go_ret
      exact ⟨rfl, by (repeat (first | exact Nw.refl _ _ | refine Nw.drew ?_ | refine Nw.drewN ?_ _ | refine Nw.made (Nat.le_refl _) ?_ _ _ | refine Nw.next (Nat.le_refl _) ?_ (by assumption)))⟩
    · have er : ad p a b = a % p + b % p := by rw [ad, if_pos hk, Int.add_emod]; exact Int.emod_eq_of_lt (by omega) (by omega)
      rw [er]
      have HK := Lib.hid hk
      clear er hk
      go_enter Try.func25, Try.ntmps25
      go_wp2_with (go_at_call 22; refine (rValid_any _ _).mono ?_; rintro e w1 ⟨rfl, hb1⟩; rw [HK.out])
      go_quiet (fail)
      go_wp2
      go_ret
      exact ⟨rfl, by (repeat (first | exact Nw.refl _ _ | refine Nw.drew ?_ | refine Nw.drewN ?_ _ | refine Nw.made (Nat.le_refl _) ?_ _ _ | refine Nw.next (Nat.le_refl _) ?_ (by assumption)))⟩
  · have er : ad p a b = 0 := by rw [ad, if_neg hk]
    rw [er]
    have HK := Lib.hid (show known p = false by simpa using hk)
    clear er hk
    go_enter Try.func25, Try.ntmps25
    go_wp2_with (go_at_call 22; refine (rValid_any _ _).mono ?_; rintro e w1 ⟨rfl, hb1⟩; rw [HK.out])
    go_ret
    exact ⟨rfl, by (repeat (first | exact Nw.refl _ _ | refine Nw.drew ?_ | refine Nw.drewN ?_ _ | refine Nw.made (Nat.le_refl _) ?_ _ _ | refine Nw.next (Nat.le_refl _) ?_ (by assumption)))⟩

theorem rd_lo {p n : Int} : 0 ≤ rd p n := by
  unfold rd; split
  · exact Int.emod_nonneg _ (by have := known_lo ‹_›; omega)
  · exact Int.le_refl _
theorem rd_hi {p n : Int} : rd p n ≤ 18446744069414584320 := by
  unfold rd; split
  · rename_i h; have := Int.emod_lt_of_pos n (show 0 < p by have := known_lo h; omega); have := known_hi h; omega
  · omega

theorem sb_lo {p a b : Int} : 0 ≤ sb p a b := by
  unfold sb; split
  · exact Int.emod_nonneg _ (by have := known_lo ‹_›; omega)
  · exact Int.le_refl _
theorem sb_hi {p a b : Int} : sb p a b ≤ 18446744069414584320 := by
  unfold sb; split
  · rename_i h; have := Int.emod_lt_of_pos (a - b) (show 0 < p by have := known_lo h; omega); have := known_hi h; omega
  · omega
theorem ad_neg {p a b : Int} : ad p a (sb p 0 b) = sb p a b := by
  unfold ad sb; split
  · rw [Int.zero_sub, Int.add_emod, Int.emod_emod, ← Int.add_emod]; rfl
  · rfl

end Go.Proofs.Ytnmbggdfcgbniaa
