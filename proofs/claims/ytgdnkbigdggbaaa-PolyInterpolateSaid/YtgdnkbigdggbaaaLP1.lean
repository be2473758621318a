/- The walks of the comparison of equal lists, of the length test, of the examples. -/
import Derived.Test.YtgdnkbigdggbaaaPolyO
namespace Go.Proofs.Ytgdnkbigdggbaaa
open Go.RowKit Go.BigFrame

set_option maxHeartbeats 4000000 in
theorem rSame_l (v u : Value) (l : List Int) (w : World) (h1 : Lst w v l) (h2 : Lst w u l) (hn : l.length ≤ 100000) :
    Calls Try.prog 43 #[v, u] w fun e w' => e = .returned (.bool true) ∧ Below w.heap.size w w' := by
  obtain ⟨a0, c0, rfl⟩ := h1.shape
  obtain ⟨a1, c1, rfl⟩ := h2.shape
  have H1 := Lib.hid h1
  have H2 := Lib.hid h2
  clear h1 h2
  go_enter Try.func43, Try.ntmps43
  go_wp2
  go_loopw [5] (fun iv wr => ∃ k m : Nat, iv = .int .i64 k ∧ k ≤ l.length ∧ wr = w.drewN m) (fun iv _ => l.length - (intOf iv).toNat)
  case atStart => exact ⟨0, 0, rfl, Nat.zero_le _, rfl⟩
  case round =>
    obtain ⟨k, m, rfl, hk, rfl⟩ := hrel
    by_cases hlt : k < l.length
    · obtain ⟨b1, o1, d1, e1, g1⟩ := H1.out.cells k hlt
      obtain ⟨b2, o2, d2, e2, g2⟩ := H2.out.cells k hlt
      cases e1
      cases e2
      have i0 : (0 : Int) ≤ (k : Int) := by omega
      have i1 : (k : Int) < (l.length : Int) := by omega
      go_wp2_with fail
      go_quiet (fail)
      go_wp2
      exact ⟨⟨k + 1, m + _, rfl, by omega, rfl⟩, by simp [intOf]; omega⟩
    · go_wp2
      go_ret
      exact ⟨rfl, ((Nw.refl _ _).drewN m).b⟩

set_option maxHeartbeats 1000000 in
theorem same3_l (v u : Value) (l : List Int) (w : World) (h1 : Lst w v l) (h2 : Lst w u l) (hn : l.length ≤ 100000) :
    Calls Try.prog 14 #[v, u] w fun e w' => e = .returned (.bool true) ∧ Below w.heap.size w w' := by
  have H1 := Lib.hid h1
  have H2 := Lib.hid h2
  clear h1 h2
  go_enter Try.func14, Try.ntmps14
  go_wp2_with (go_at_call 43; refine (rSame_l _ _ l _ H1.out H2.out hn).mono ?_; rintro _ w1 ⟨rfl, hb1⟩)
  go_ret
  exact ⟨rfl, hb1⟩
/-- Two lists with the same polynomial are the same. -/
theorem same3_p {p : Int} {v u : Value} {r s : List Int} {f g : Nat → Fin (Q p)} {w : World} (h1 : Lst w v r) (h2 : Lst w u s) (i1 : Is p r f) (i2 : Is p s g) (e : known p = true → f = g) (hn : r.length ≤ 100000) :
    Calls Try.prog 14 #[v, u] w fun e w' => e = .returned (.bool true) ∧ Below w.heap.size w w' := by
  have := i1.same i2 e
  subst this
  exact same3_l _ _ r w h1 h2 hn

set_option maxHeartbeats 1000000 in
theorem few3_u (a : Option Addr) (n c : Nat) (w : World) (hn : n ≤ 9223372036854775807) : Calls Try.prog 13 #[.slice a n c] w fun e w' => e = .returned (.bool (decide (n ≤ 24))) ∧ w = w' := by
  have i1 : (n : Int) ≤ 9223372036854775807 := by omega
  by_cases h : n ≤ 24
  · rw [decide_eq_true h]
    have i2 : (n : Int) ≤ 24 := by omega
    go_enter Try.func13, Try.ntmps13
    go_wp2
    go_ret
    exact ⟨rfl, rfl⟩
  · rw [decide_eq_false h]
    have i2 : (24 : Int) < (n : Int) := by omega
    go_enter Try.func13, Try.ntmps13
    go_wp2
    go_ret
    exact ⟨by simp; omega, rfl⟩

theorem deg_ext {q : Nat} [NeZero q] {f g : Nat → Fin q} {n : Nat} (hf : Po.Deg f n) (hg : Po.Deg g n) (h : ∀ i, i < n → f i = g i) : f = g := funext fun i => by
  rcases Nat.lt_or_ge i n with l | l
  · exact h i l
  · rw [hf i l, hg i l]
theorem k17 : known 17 = true := by decide
theorem is17 (l : List Int) {f : Nat → Fin (Q 17)} {n : Nat} (hn : NF 17 l) (hl : l.length ≤ n) (hf : Po.Deg f n) (h : ∀ i, i < n → pf 17 l i = f i) : Is 17 l f := by
  unfold Is
  rw [if_pos k17]
  exact ⟨hn, deg_ext ((pf_deg k17 l).mono hl) hf h⟩
theorem ex_mul : Is 17 [8, 0, 1] (Po.cv (pf 17 [3, 1]) (pf 17 [14, 1])) :=
  is17 (n := 4) _ ⟨by decide, by decide⟩ (by decide) (Po.deg_cv' (pf_deg k17 [3, 1]) (pf_deg k17 [14, 1])) (by decide +kernel)
theorem ex_div : Po.ad (Po.cv (pf 17 [16, 1]) (pf 17 [1, 1])) (pf 17 [9]) = pf 17 [8, 0, 1] :=
  deg_ext (n := 4) (((Po.deg_cv' (pf_deg k17 [16, 1]) (pf_deg k17 [1, 1]))).ad ((pf_deg k17 [9]).mono (by decide))) ((pf_deg k17 [8, 0, 1]).mono (by decide)) (by decide +kernel)
end Go.Proofs.Ytgdnkbigdggbaaa
