/- The walk of the closure that makes an element's matrix. -/
import Derived.Test.YtdcdaclkeocfpaaEM
namespace Go.Proofs.Ytdcdaclkeocfpaa
open Go.RowKit Go.BigFrame
open Classical

theorem mat_two' {V : World} {g : Nat} {r s : Value} {R S : List Int} (hg : g = V.heap.size) (hr : Lst V r R) (hs : Lst V s S) : MatR (V.alloc (.cells #[r, s] 36)) (.slice (some ⟨g, 0, none⟩) 2 2) [R, S] := by
  subst hg; exact mat_two hr hs
theorem lit2 {V : World} {g : Nat} {a b : Int} (hg : g = V.heap.size) [ha : U a] [hb : U b] : Lst (V.alloc (.cells #[.int .u64 a, .int .u64 b] 22)) (.slice (some ⟨g, 0, none⟩) 2 2) [a, b] :=
  lit_of hg [a, b] (by simp) (fun y hy => by
    rcases List.mem_cons.1 hy with rfl | hy
    · exact ha
    · rcases List.mem_cons.1 hy with rfl | hy
      · exact hb
      · cases hy) rfl

set_option maxRecDepth 100000 in
set_option maxHeartbeats 8000000 in
theorem mat05_u (p x0 x1 : Int) [_hp : U p] [h0 : U x0] [h1 : U x1] (B : Nat) (w : World) (hB : w.cell? ⟨B, 0, none⟩ = some (.int .u64 p)) :
    Calls Try.prog 55 #[.agg #[.int .u64 x0, .int .u64 x1], .pointer (some ⟨B, 0, none⟩)] w fun e w' => ∃ v, e = .returned v ∧ MatR w' v (A2 p (x0, x1)) ∧ Below w.heap.size w w' := by
  go_enter Try.func55, Try.ntmps55
  go_upto_region 1 with fail
  refine name_world ?_
  intro W hW
  have hb : Below w.heap.size w W := by rw [hW]; exact (Below.refl _ _).alloc (Nat.le_refl _) _
  have hc0 : W.cell? ⟨w.heap.size, 0, none⟩ = some (.int .u64 x0) := by rw [hW]; go_simp
  have hc1 : W.cell? ⟨w.heap.size, 1, none⟩ = some (.int .u64 x1) := by rw [hW]; go_simp
  have hcB := Below.hold hb hB
  clear hW hB
  have HB := Lib.hid hb
  clear hb
  go_wp2_with fail
  have G0 := fun (w' : World) (h : Below W.heap.size W w') => Below.hold h hc0
  have G1 := fun (w' : World) (h : Below W.heap.size W w') => Below.hold h hc1
  have G2 := fun (w' : World) (h : Below W.heap.size W w') => Below.hold h hcB
  have F := Below.refl W.heap.size W
  go_region_held3 (fun w' => Below W.heap.size W w')
    (repeat (first | assumption | refine Below.drew ?_ | refine Below.made (Nat.le_refl _) ?_ _))
    (first
      | (go_at_call 56; refine (fReduce_u p _ _).mono ?_; rintro _ w1 ⟨rfl, hb1⟩; have hs1 : Below W.heap.size W w1 := Below.next (Nat.le_refl _) (by repeat (first | assumption | refine Below.drew ?_ | refine Below.made (Nat.le_refl _) ?_ _)) hb1.b)
      | (go_at_call 57; refine (fGenerator_u p _).mono ?_; rintro _ w2 ⟨rfl, hb2⟩; have hs2 : Below W.heap.size W w2 := Below.next (Nat.le_refl _) (by repeat (first | assumption | refine Below.drew ?_ | refine Below.made (Nat.le_refl _) ?_ _)) hb2.b)
      | (go_at_call 38; refine (fMul_u p _ _ _).mono ?_; rintro _ w3 ⟨rfl, hb3⟩; have hs3 : Below W.heap.size W w3 := Below.next (Nat.le_refl _) (by repeat (first | assumption | refine Below.drew ?_ | refine Below.made (Nat.le_refl _) ?_ _)) hb3.b)
      | fail)
  all_goals
    clear G0 G1 G2
    have nb : ∀ {x y : World}, Nw x.heap.size x y → Below x.heap.size x y := fun h => h.b
    go_wp2
    go_ret
    rw [show A2 p (x0, x1) = [[rd p x0, ml p x1 (gen p)], [rd p x1, rd p x0]] from rfl]
    refine ⟨_, rfl, mat_two' (by first | rfl | (simp; done)) ?_ ?_, Below.next (Nat.le_refl _) HB.out (by assumption)⟩
    · first
        | exact lit2 rfl
        | exact lit2 (by simp)
        | (refine Lst.hold (lit2 rfl) ?_; (repeat (first | exact Below.refl _ _ | refine Below.drew ?_ | refine Below.made (Nat.le_refl _) ?_ _ | refine Below.next (Nat.le_refl _) ?_ (nb (by assumption)))); done)
        | (refine Lst.hold (lit2 (by simp)) ?_; (repeat (first | exact Below.refl _ _ | refine Below.drew ?_ | refine Below.made (Nat.le_refl _) ?_ _ | refine Below.next (Nat.le_refl _) ?_ (nb (by assumption)))); done)
    · first
        | exact lit2 rfl
        | exact lit2 (by simp)
        | (refine Lst.hold (lit2 rfl) ?_; (repeat (first | exact Below.refl _ _ | refine Below.drew ?_ | refine Below.made (Nat.le_refl _) ?_ _ | refine Below.next (Nat.le_refl _) ?_ (nb (by assumption)))); done)
        | (refine Lst.hold (lit2 (by simp)) ?_; (repeat (first | exact Below.refl _ _ | refine Below.drew ?_ | refine Below.made (Nat.le_refl _) ?_ _ | refine Below.next (Nat.le_refl _) ?_ (nb (by assumption)))); done)
end Go.Proofs.Ytdcdaclkeocfpaa
