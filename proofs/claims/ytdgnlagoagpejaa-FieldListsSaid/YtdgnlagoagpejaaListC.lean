/- The iterator slices.Backward over a slice of numbers: what comes, and in which order. -/
import Derived.Test.YtdgnlagoagpejaaListB
import Derived.RangeFuncNested
import Derived.RangeFuncBound
import Derived.RangeFuncCalls
import Derived.RangeFuncLeaves
import Derived.RangeFuncBox
import Derived.RangeFuncWrites
import Derived.Shelf.Abstract
import Derived.Shelf.RegionOpen
import Derived.OwnWalkIn
import Derived.TacticsInMore
import Derived.LoopNIn
import Derived.LoopIn
namespace Go.Proofs.Ytdgnlagoagpejaa
open Go.RowKit Go.Shelf
attribute [local go_sem] Oper.semAt_some

/-- What has come when k rounds are over: n - 1, n - 2, .. -/
def downs (n : Nat) : Nat → List (Fin n)
  | 0 => []
  | k + 1 => downs n k ++ (if h : k < n then [⟨n - 1 - k, by omega⟩] else [])
theorem downs_length (n : Nat) : ∀ k, k ≤ n → (downs n k).length = k := by
  intro k
  induction k with
  | zero => intro _; rfl
  | succ k ih => intro h; rw [downs, dif_pos (by omega), List.length_append, ih (by omega)]; rfl

theorem downs_step {n q : Nat} (h : q < n) : downs n (n - q) = downs n (n - (q + 1)) ++ [⟨q, h⟩] := by
  obtain ⟨k, hk⟩ : ∃ k, k = n - (q + 1) := ⟨_, rfl⟩
  rw [show n - q = k + 1 from by omega, ← hk, downs, dif_pos (by omega)]
  congr 2
  exact Fin.ext (by show n - 1 - k = q; omega)

/-- What a round of the loop's body keeps: the box of the list, and the cells that lay below n₀. -/
def KeepsCells (n₀ Bs : Nat) (A B : World) : Prop := ∀ a v, (a.block = Bs ∨ a.block < n₀) → A.cell? a = some v → B.cell? a = some v
theorem KeepsCells.trans {n₀ Bs : Nat} {A B C : World} (h : KeepsCells n₀ Bs A B) (k : KeepsCells n₀ Bs B C) : KeepsCells n₀ Bs A C := fun a v ha hv => k a v ha (h a v ha hv)
theorem KeepsCells.refl (n₀ Bs : Nat) (A : World) : KeepsCells n₀ Bs A A := fun _ _ _ h => h

theorem back_any (v : Value) (hv : ∃ a n c, v = .slice a n c) (w : World) : Calls Try.prog 54 #[v] w fun e w' => e = .returned (.func (.func 57) #[] #[.pointer (some ⟨w.heap.size, 0, none⟩)]) ∧ w.alloc (.cells #[v] 33) = w' := by
  obtain ⟨a, n, c, rfl⟩ : ∃ a n c, v = .slice a n c := hv
  go_enter Try.func54, Try.ntmps54
  go_wp2
  go_ret
  exact ⟨rfl, rfl⟩

set_option maxRecDepth 100000 in
set_option maxHeartbeats 4000000 in
theorem back1_in (F : Fence) (m : Nat) (hF : F.fn 57) (hro : F.round = none) (hm : 1 ≤ m) (l Bs n₀ : Nat) (v : Value) (n : Nat) (f : Nat → Int) (hsh : n ≤ 200) (hlow : ∀ b o c, v = .slice (some ⟨b, o, none⟩) n c → b < n₀) (J Jx : List (Fin n) → World → Prop)
    (hY : ∀ pre x W, J pre W → pre.length < n → YieldAt F (m - 1) Try.prog l #[.int .i64 (x.val : Int), .int .u64 (f x.val)] W fun e W' =>
      (e = .returned (.bool true) ∧ J (pre ++ [x]) W' ∧ KeepsCells n₀ Bs W W') ∨ (e = .returned (.bool false) ∧ Jx (pre ++ [x]) W'))
    (W : World) (hBs : W.cell? ⟨Bs, 0, none⟩ = some v) (hr : RowOf W v n f) (h0 : J [] W) :
    CallsIn F m Try.prog 57 #[.func (.yield l) #[] #[], .pointer (some ⟨Bs, 0, none⟩)] W fun e W' => (∃ v, e = .returned v) ∧
      ((∃ ys, ys = downs n n ∧ J ys W') ∨ (∃ pre, True ∧ Jx pre W')) := by
  have hn0 : (n : Int) ≤ 200 := by omega
  obtain ⟨a0, c0, rfl⟩ := hr.form
  refine callsIn_of_wp Try.func57 rfl hF ?_ hro
  simp only [Try.ntmps57, List.size_toArray, List.length_cons, List.length_nil, Nat.reduceAdd, Nat.reduceSub, Array.replicate_succ, Array.replicate_zero, List.push_toArray, List.append_toArray, List.nil_append, List.cons_append]
  gi_wp2
  gi_loopw [3] (fun i wr => ∃ j : Nat, j ≤ n ∧ i = .int .i64 ((j : Int) - 1) ∧ J (downs n (n - j)) wr ∧ KeepsCells n₀ Bs W wr)
    (fun i _ => (intOf i + 1).toNat)
  case atStart => exact ⟨n, Nat.le_refl _, rfl, by rw [Nat.sub_self]; exact h0, KeepsCells.refl _ _ _⟩
  case round =>
    obtain ⟨j, hj, rfl, hJs, hnx⟩ := hrel
    have hbx : wr.cell? ⟨Bs, 0, none⟩ = some (.slice a0 n c0) := hnx _ _ (.inl rfl) hBs
    cases j with
    | zero =>
      rw [show ((0 : Nat) : Int) - 1 = -1 from rfl]
      gi_wp2
      go_end0
      exact ⟨⟨_, rfl⟩, .inl ⟨_, rfl, hJs⟩⟩
    | succ q =>
      obtain ⟨b, o, c, he, hcq⟩ := hr.cells q (by omega)
      have hbl := hlow b o c he
      cases he
      have hcx : wr.cell? ⟨b, o + q, none⟩ = some (.int .u64 (f q)) := hnx _ _ (.inr hbl) hcq
      obtain ⟨fn, tmps, assign, body, hy, hR⟩ := hY _ ⟨q, by omega⟩ wr hJs (by rw [downs_length _ _ (by omega)]; omega)
      dsimp only at hy
      rw [show (((q + 1 : Nat) : Int) - 1) = (q : Int) from by omega]
      have q0 : (0 : Int) ≤ (q : Int) := by omega
      have q1 : (q : Int) < (n : Int) := by omega
      have q2 : (q : Int) ≤ 200 := by omega
      gi_wp2
      refine hR.mono ?_
      rintro e W3 (⟨rfl, hJ3, hk3⟩ | ⟨rfl, hJx3⟩)
      · gi_wp2
        go_roundw
        case rel => exact ⟨q, by omega, rfl, by rw [downs_step (by omega)]; exact hJ3, hnx.trans hk3⟩
        case measure => first | (simp [intOf]; done) | (simp [intOf]; omega)
      · gi_wp2
        refine bodyPost_ret (results_none rfl _ _ _) rfl ?_
        exact ⟨⟨_, rfl⟩, .inr ⟨_, trivial, hJx3⟩⟩

theorem RowOf.below {W w1 : World} {v : Value} {n : Nat} {f : Nat → Int} (h : RowOf W v n f) (k : Below W.heap.size W w1) : RowOf w1 v n f :=
  ⟨h.short, h.range, h.form, fun i hi => by obtain ⟨b, o, c, e, hc⟩ := h.cells i hi; exact ⟨b, o, c, e, (k.cell (World.block_lt_of_cell? W _ hc)).trans hc⟩⟩

theorem back_stops (F : Fence) (m : Nat) (hF : F.fn 57) (hro : F.round = none) (hm : 1 ≤ m) (Bs n₀ : Nat) (v : Value) (n : Nat) (f : Nat → Int) (w : World) (hlow : ∀ b o c, v = .slice (some ⟨b, o, none⟩) n c → b < n₀)
    (hBs : w.cell? ⟨Bs, 0, none⟩ = some v) (hr : RowOf w v n f) :
    SeqStopsK F m Try.prog 57 #[.pointer (some ⟨Bs, 0, none⟩)] (fun x : Fin n => #[Value.int .i64 (x.val : Int), Value.int .u64 (f x.val)]) (KeepsCells n₀ Bs) (fun ys => ys = downs n n) (fun _ => True) n w :=
  fun l J Jx W hW _ _ hY h0 =>
    back1_in F m hF hro hm l Bs n₀ v n f hr.short hlow J Jx hY W ((hW.cell (World.block_lt_of_cell? w _ hBs)).trans hBs) (hr.below hW) h0
end Go.Proofs.Ytdgnlagoagpejaa
