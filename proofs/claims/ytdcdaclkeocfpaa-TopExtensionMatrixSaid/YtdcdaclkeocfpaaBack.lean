/- The iterator slices.Backward: a loop over it whose rounds are told which element comes, and which may write what is not the iterator's. -/
import Derived.Test.YtdcdaclkeocfpaaRefR
import Derived.RangeFuncNested
import Derived.RangeFuncBound
import Derived.RangeFuncCalls
import Derived.RangeFuncLeaves
import Derived.RangeFuncBox
import Derived.RangeFuncWrites
import Derived.Shelf.Abstract
import Derived.Shelf.RegionOpen
import Derived.OwnWalkIn
import Derived.TacticsInMore
import Derived.LoopNIn
import Derived.LoopIn
namespace Go.Proofs.Ytdcdaclkeocfpaa
open Go.RowKit Go.Shelf
attribute [local go_sem] Oper.semAt_some

theorem back_any (v : Value) (hv : ∃ a n c, v = .slice a n c) (w : World) : Calls Try.prog 111 #[v] w fun e w' => e = .returned (.func (.func 122) #[] #[.pointer (some ⟨w.heap.size, 0, none⟩)]) ∧ w.alloc (.cells #[v] 36) = w' := by
  obtain ⟨a, n, c, rfl⟩ : ∃ a n c, v = .slice a n c := hv
  go_enter Try.func111, Try.ntmps111
  go_wp2
  go_ret
  exact ⟨rfl, rfl⟩

/-- What the iterator reads: its box, and the elements of the slice in it. -/
def Seen (Bs : Nat) (v : Value) (N : Nat) (W : World) : Prop :=
  W.cell? ⟨Bs, 0, none⟩ = some v ∧ ∀ i, i < N → ∃ b o c u, v = .slice (some ⟨b, o, none⟩) N c ∧ W.cell? ⟨b, o + i, none⟩ = some (.int .u64 u)

set_option maxRecDepth 100000 in
set_option maxHeartbeats 4000000 in
theorem back_run (F : Fence) (m : Nat) (hF : F.fn 122) (hro : F.round = none) (hm : 1 ≤ m) (l Bs : Nat) (v : Value) (N : Nat) (hv : ∃ a c, v = .slice a N c) (hN : N ≤ 1000) (J Jx : Nat → World → Prop)
    (hJ : ∀ k W, J k W → Seen Bs v N W)
    (hY : ∀ k b o c u W, k < N → J k W → v = .slice (some ⟨b, o, none⟩) N c → W.cell? ⟨b, o + (N - 1 - k), none⟩ = some (.int .u64 u) → YieldAt F (m - 1) Try.prog l #[.int .i64 ((N - 1 - k : Nat) : Int), .int .u64 u] W fun e W' =>
      (e = .returned (.bool true) ∧ J (k + 1) W') ∨ (e = .returned (.bool false) ∧ Jx k W'))
    (W : World) (h0 : J 0 W) :
    CallsIn F m Try.prog 122 #[.func (.yield l) #[] #[], .pointer (some ⟨Bs, 0, none⟩)] W fun e W' => (∃ v, e = .returned v) ∧ (J N W' ∨ ∃ k, k < N ∧ Jx k W') := by
  obtain ⟨a0, c0, rfl⟩ := hv
  have hn0 : (N : Int) ≤ 1000 := by omega
  have hBs := (hJ 0 W h0).1
  refine callsIn_of_wp Try.func122 rfl hF ?_ hro
  simp only [Try.ntmps122, List.size_toArray, List.length_cons, List.length_nil, Nat.reduceAdd, Nat.reduceSub, Array.replicate_succ, Array.replicate_zero, List.push_toArray, List.append_toArray, List.nil_append, List.cons_append]
  gi_wp2
  clear hBs
  gi_loopw [3] (fun i wr => ∃ k : Nat, k ≤ N ∧ i = .int .i64 (((N - k : Nat) : Int) - 1) ∧ J k wr)
    (fun i _ => (intOf i + 1).toNat)
  case atStart => exact ⟨0, Nat.zero_le _, rfl, h0⟩
  case round =>
    obtain ⟨k, hk, rfl, hJs⟩ := hrel
    have hbx := (hJ k wr hJs).1
    obtain ⟨j, hj⟩ : ∃ j, j = N - k := ⟨_, rfl⟩
    rw [← hj]
    cases j with
    | zero =>
      obtain rfl : k = N := by omega
      rw [show ((0 : Nat) : Int) - 1 = -1 from rfl]
      clear hj hk
      gi_wp2
      go_end0
      exact ⟨⟨_, rfl⟩, .inl hJs⟩
    | succ q =>
      have hkN : k < N := by omega
      have hq : N - 1 - k = q := by omega
      clear hj
      obtain ⟨b, o, c, u, he, hcq⟩ := (hJ k wr hJs).2 q (by omega)
      have hY1 := hY k b o c u wr hkN hJs he (by rw [hq]; exact hcq)
      rw [hq] at hY1
      obtain ⟨fn, tmps, assign, body, hy, hR⟩ := hY1
      cases he
      rw [show (((q + 1 : Nat) : Int) - 1) = (q : Int) from by omega]
      have q0 : (0 : Int) ≤ (q : Int) := by omega
      have q1 : (q : Int) < (N : Int) := by omega
      have q2 : (q : Int) ≤ 1000 := by omega
      gi_wp2
      refine hR.mono ?_
      rintro e W3 (⟨rfl, hJ3⟩ | ⟨rfl, hJx3⟩)
      · gi_wp2
        go_roundw
        case rel => exact ⟨k + 1, hkN, by rw [show N - (k + 1) = q from by omega], hJ3⟩
        case measure => first | (simp [intOf]; done) | (simp [intOf]; omega)
      · gi_wp2
        refine bodyPost_ret (results_none rfl _ _ _) rfl ?_
        exact ⟨⟨_, rfl⟩, .inr ⟨k, hkN, hJx3⟩⟩

/-- How the body of a round may be left. -/
def roundEnd (B : Nat) (I Ix : Nat → World → Prop) (k : Nat) (W : World) : Exit → Act → World → Prop
  | .normal, _, W' => KeepsFrom B W W' ∧ I (k + 1) W'
  | .ret, _, W' => KeepsFrom B W W' ∧ Ix k W'
  | _, _, _ => False

/-- A loop over slices.Backward: I k holds when k rounds are over; round k sees the element N - 1 - k; Ix k holds where round k returns. -/
theorem back_loop {F : Fence} {n : Nat} {g : Operand} {ps : Array Tmp} {assign body : Code} {Q : Exit → Act → World → Prop} {a : Act} {w : World} (hro : F.round = none) (h2 : 2 ≤ n) (hF : F.fn 122)
    {Bs N : Nat} {v : Value} (hg : a.eval g = .func (.func 122) #[] #[.pointer (some ⟨Bs, 0, none⟩)]) (hv : ∃ a c, v = .slice a N c) (hN : N ≤ 1000) (hps : ps.size = 2)
    (I Ix : Nat → World → Prop) (hI : OwnFrom w.heap.size I) (hIx : OwnFrom w.heap.size Ix) (h0 : I 0 w) (hS : ∀ k W, I k W → Seen Bs v N W) (a₁ : Nat → Int → Act)
    (hassign : ∀ (l i : Nat) (u : Int) (W : World) (K : Act → World → Prop), K (a₁ i u) W →
      assign.wpIn (F.inRound l) (n - 1 - 1) Try.prog (Exit.then K (fun _ _ _ => False)) { tmps := (ps.zip #[.int .i64 i, .int .u64 u]).foldl (fun t (p, v) => t.setIfInBounds p v) a.tmps, defers := [] } W)
    (hbody : ∀ (l k b o c : Nat) (u : Int) (W : World), k < N → I k W → v = .slice (some ⟨b, o, none⟩) N c → W.cell? ⟨b, o + (N - 1 - k), none⟩ = some (.int .u64 u) →
      body.wpIn (F.inRound l) (n - 1 - 1) Try.prog (roundEnd w.heap.size I Ix k W) (a₁ (N - 1 - k) u) W)
    (hdone : ∀ (D : Nat) (W : World), w.heap.size ≤ D → I N W → W.heap[D]? = some (.deferred (some [])) → Q .normal { a with defers := { target := .collected D, args := #[] } :: a.defers } W)
    (hstop : ∀ (D k : Nat) (W : World), w.heap.size ≤ D → k < N → Ix k W → W.heap[D]? = some (.deferred (some [])) → Code.ret.wpIn F n Try.prog Q { a with defers := { target := .collected D, args := #[] } :: a.defers } W) :
    (Code.rangeFunc g ps assign body).wpIn F n Try.prog Q a w := by
  refine wpIn_rangeFunc fun fn hfn => ?_
  rw [hro]
  -- the loop's record, and the two blocks that it lays
  let rec0 (st : LoopState) (pe : Option Code) : Loop := { state := st, pending := pe, fn, tmps := a.tmps, params := ps, assign, body, defers := w.heap.size }
  let Book (o : Loop) (W : World) : Prop := W.heap[w.heap.size + 1]? = some (.loop o) ∧ W.heap[w.heap.size]? = some (.deferred (some []))
  have turn : ∀ {o o' : Loop} {W : World}, Book o W → Book o' (W.putObj (w.heap.size + 1) (.loop o')) := fun h =>
    ⟨World.putObj_heap_same (Array.getElem?_eq_some_iff.1 h.1).1, (World.putObj_heap_other (by omega)).trans h.2⟩
  have kept : ∀ {o : Loop} {W W' : World}, Book o W → KeepsFrom w.heap.size W W' → Book o W' := fun h k => ⟨k.same _ _ (by omega) h.1 rfl, k.same _ _ (Nat.le_refl _) h.2 rfl⟩
  have turnI : ∀ {J : Nat → World → Prop}, OwnFrom w.heap.size J → ∀ {k : Nat} {o o' : Loop} {W : World}, J k W → Book o W → J k (W.putObj (w.heap.size + 1) (.loop o')) := fun hJ _ _ _ _ h hb => hJ.putObj _ h (by omega) hb.1 rfl
  have start : Book (rec0 .ready none) ((w.alloc (.deferred (some []))).alloc (.loop (rec0 .ready none))) := by
    refine ⟨?_, (Below.heap_alloc _ _ _ (by simp)).trans (World.alloc_heap_new w _)⟩
    have := World.alloc_heap_new (w.alloc (.deferred (some []))) (.loop (rec0 .ready none))
    rwa [World.size_alloc] at this
  obtain ⟨W1, hW1⟩ : ∃ W1, (w.alloc (.deferred (some []))).alloc (.loop (rec0 .ready none)) = W1 := ⟨_, rfl⟩
  rw [hW1] at start
  have hI1 : I 0 W1 := by rw [← hW1]; exact hI.alloc _ (hI.alloc _ h0)
  refine ⟨w.heap.size + 1, [{ target := .collected w.heap.size, args := #[] }], W1, { target := .fn (.func 122) #[.pointer (some ⟨Bs, 0, none⟩)], args := #[.func (.yield (w.heap.size + 1)) #[] #[]] }, W1, 122,
    #[.func (.yield (w.heap.size + 1)) #[] #[]] ++ #[.pointer (some ⟨Bs, 0, none⟩)], W1, by rw [← hW1]; exact run_enterLoop_outer _ _ _ _ _, ?_, ?_, ?_, fun _ => by omega, ?_⟩
  · simp only [resolve, hg]
    simp [go_sem]
  · intro f' hf'; simp [Target.leads] at hf'; subst hf'; exact hF
  · simp [invoke, go_sem]
  refine (back_run F (n - 1) hF hro (by omega) (w.heap.size + 1) Bs v N hv hN (fun k W => I k W ∧ Book (rec0 .ready none) W) (fun k W => Ix k W ∧ Book (rec0 .done (some .ret)) W) (fun k W h => hS k W h.1) ?_ _ ⟨hI1, start⟩).mono ?_
  · rintro k b o c u W hk ⟨hi, hb⟩ he hc
    have hy := run_yield (P := Try.prog) (args := #[.int .i64 ((N - 1 - k : Nat) : Int), .int .u64 u]) hb.1 (by simp [rec0, hps])
    refine ⟨fn, _, assign, body, hy, roundIn_of_wpIn hfn (hassign _ _ _ W _ ⟨_, run_beginRound hb.1 rfl, ?_⟩)⟩
    have hb2 : Book { rec0 .ready none with state := .busy } (W.putObj (w.heap.size + 1) (.loop { rec0 .ready none with state := .busy })) := turn hb
    have hc2 : (W.putObj (w.heap.size + 1) (.loop { rec0 .ready none with state := .busy })).cell? ⟨b, o + (N - 1 - k), none⟩ = some (.int .u64 u) :=
      cell_kept hc (grownBy_putObj' _ _ _) (fun r e => by cases e; exact ⟨_, hb.1, rfl⟩)
    refine wpIn_mono (hbody _ k b o c u _ hk (turnI hI hi hb) he hc2) ?_
    rintro e a3 W3 hp
    cases e with
    | normal =>
      obtain ⟨k3, i3⟩ := hp
      have hb3 := kept hb2 k3
      exact ⟨_, _, run_endRound (P := Try.prog) none hb3.1, .inl ⟨rfl, turnI hI i3 hb3, turn hb3⟩⟩
    | ret =>
      obtain ⟨k3, i3⟩ := hp
      have hb3 := kept hb2 k3
      exact ⟨_, _, run_endRound (P := Try.prog) (some .ret) hb3.1, .inr ⟨rfl, turnI hIx i3 hb3, turn hb3⟩⟩
    | exit id => exact (hp : False).elim
    | goto t => exact (hp : False).elim
    | panic ch => exact (hp : False).elim
    | outgrown => exact (hp : False).elim
  · rintro e W2 ⟨⟨v, rfl⟩, (⟨hi, hb⟩ | ⟨k, hk, hi, hb⟩)⟩
    · exact ⟨none, _, run_endLoop (P := Try.prog) hb.1 (by simp [rec0]), hdone _ _ (Nat.le_refl _) (turnI hI hi hb) ((World.putObj_heap_other (by omega)).trans hb.2)⟩
    · exact ⟨some .ret, _, run_endLoop (P := Try.prog) hb.1 (by simp [rec0]), hstop _ k _ (Nat.le_refl _) hk (turnI hIx hi hb) ((World.putObj_heap_other (by omega)).trans hb.2)⟩
end Go.Proofs.Ytdcdaclkeocfpaa
