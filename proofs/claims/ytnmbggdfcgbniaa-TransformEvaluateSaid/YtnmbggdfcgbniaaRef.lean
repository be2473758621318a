/- The walks of the tables, and of the reference's small functions. -/
import Derived.Test.YtnmbggdfcgbniaaMeth
namespace Go.Proofs.Ytnmbggdfcgbniaa
open Go.RowKit

def gen (p : Int) : Int := if p == 17 then 3 else if p == 97 then 5 else if p == 193 then 5 else if p == 257 then 3 else if p == 12289 then 11 else if p == 65537 then 3 else if p == 18446744069414584321 then 7 else 0
def adi (p : Int) : Int := if p == 17 then 4 else if p == 97 then 5 else if p == 193 then 6 else if p == 257 then 8 else if p == 12289 then 12 else if p == 65537 then 16 else if p == 18446744069414584321 then 32 else 0
def exn (p : Int) : Int := if p == 17 then 3 else if p == 97 then 5 else if p == 193 then 5 else if p == 257 then 3 else if p == 12289 then 5 else if p == 65537 then 3 else if p == 18446744069414584321 then 7 else 0
theorem gen_none {p : Int} (h : known p = false) : gen p = 0 ∧ adi p = 0 ∧ exn p = 0 := by
  obtain ⟨h1, h2, h3, h4, h5, h6, h7⟩ := unknown_each h
  simp [gen, adi, exn, h1, h2, h3, h4, h5, h6, h7]

set_option maxHeartbeats 1000000 in
theorem rRow_any (p : Int) (w : World) :
    Calls Try.prog 36 #[.int .u64 p] w fun e w' => e = .returned (.agg #[.int .u64 (gen p), .int .u64 (adi p), .int .u64 (exn p)]) ∧ Nw w.heap.size w w' := by
  by_cases h : known p = true
  · rcases known_cases h with rfl | rfl | rfl | rfl | rfl | rfl | rfl
    all_goals
      clear h
      go_enter Try.func36, Try.ntmps36
      go_wp2
      go_returns
      exact ⟨rfl, by (repeat (first | exact Nw.refl _ _ | refine Nw.drew ?_ | refine Nw.made (Nat.le_refl _) ?_ _ _ | refine Nw.next (Nat.le_refl _) ?_ (by assumption)))⟩
  · have h : known p = false := by simpa using h
    obtain ⟨e1, e2, e3⟩ := gen_none h
    obtain ⟨h1, h2, h3, h4, h5, h6, h7⟩ := unknown_each h
    rw [e1, e2, e3]; clear h e1 e2 e3
    go_enter Try.func36, Try.ntmps36
    go_wp2
    go_returns
    exact ⟨rfl, by (repeat (first | exact Nw.refl _ _ | refine Nw.drew ?_ | refine Nw.made (Nat.le_refl _) ?_ _ _ | refine Nw.next (Nat.le_refl _) ?_ (by assumption)))⟩

set_option maxHeartbeats 1000000 in
theorem fFacts_any (p : Int) (w : World) :
    Calls Try.prog 58 #[.int .u64 p] w fun e w' => e = .returned (.agg #[.int .u64 (gen p), .int .i64 (adi p), .int .u64 (exn p)]) ∧ Nw w.heap.size w w' := by
  by_cases h : known p = true
  · rcases known_cases h with rfl | rfl | rfl | rfl | rfl | rfl | rfl
    all_goals
      clear h
      go_enter Try.func58, Try.ntmps58
      go_wp2
      go_returns
      exact ⟨rfl, by (repeat (first | exact Nw.refl _ _ | refine Nw.drew ?_ | refine Nw.made (Nat.le_refl _) ?_ _ _ | refine Nw.next (Nat.le_refl _) ?_ (by assumption)))⟩
  · have h : known p = false := by simpa using h
    obtain ⟨e1, e2, e3⟩ := gen_none h
    obtain ⟨h1, h2, h3, h4, h5, h6, h7⟩ := unknown_each h
    rw [e1, e2, e3]; clear h e1 e2 e3
    go_enter Try.func58, Try.ntmps58
    go_wp2
    go_returns
    exact ⟨rfl, by (repeat (first | exact Nw.refl _ _ | refine Nw.drew ?_ | refine Nw.made (Nat.le_refl _) ?_ _ _ | refine Nw.next (Nat.le_refl _) ?_ (by assumption)))⟩
end Go.Proofs.Ytnmbggdfcgbniaa
