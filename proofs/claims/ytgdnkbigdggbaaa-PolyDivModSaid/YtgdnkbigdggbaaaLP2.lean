/- The examples of the chapter on polynomials, as equations. -/
import Derived.Test.YtgdnkbigdggbaaaLP1
import Derived.Deep.Cut
namespace Go.Proofs.Ytgdnkbigdggbaaa
open Go.RowKit Go.BigFrame

theorem ex_int (F : Nat → Fin (Q 17)) (h : Lag 17 [0, 1, 2] [1, 2, 5] 3 F) : F = pf 17 [1, 0, 1] := by
  refine Po.interp_unique (fld k17) (xs := [0, 1, 2].map (ph 17)) (diff_nodup k17 (by decide)) h.deg (pf_deg k17 [1, 0, 1]) ?_
  intro x hx
  have h0 := h.hit 0 (by decide) (by decide)
  have h1 := h.hit 1 (by decide) (by decide)
  have h2 := h.hit 2 (by decide) (by decide)
  simp at hx
  rcases hx with rfl | rfl | rfl
  · exact h0.trans (by decide +kernel)
  · exact h1.trans (by decide +kernel)
  · exact h2.trans (by decide +kernel)
theorem is_of {l : List Int} (hn : NF 17 l) : Is 17 l (pf 17 l) := by unfold Is; rw [if_pos k17]; exact ⟨hn, rfl⟩

theorem ex_quot {r1 r2 : List Int} {er : Int} (h : (known 17 = false ∧ r1 = [] ∧ r2 = [] ∧ er = 7) ∨ (known 17 = true ∧ pf 17 [1, 1] = Po.ze ∧ r1 = [] ∧ r2 = [] ∧ er = 1) ∨
    (known 17 = true ∧ pf 17 [1, 1] ≠ Po.ze ∧ er = 0 ∧ r1.length ≤ 101 ∧ r2.length ≤ 100 ∧ ∃ u r, Is 17 r1 u ∧ Is 17 r2 r ∧ Po.DivOf (pf 17 [8, 0, 1]) (pf 17 [1, 1]) u r)) : r1 = [16, 1] ∧ r2 = [9] ∧ er = 0 := by
  rcases h with ⟨h, _⟩ | ⟨_, h, _⟩ | ⟨_, _, he, _, _, u, r, i1, i2, hd⟩
  · exact absurd h (by decide)
  · exact absurd (congrFun h 0) (by decide +kernel)
  · have hu : Po.Deg u r1.length := by rw [← i1.pf k17]; exact pf_deg k17 r1
    have hd2 : Po.DivOf (pf 17 [8, 0, 1]) (pf 17 [1, 1]) (pf 17 [16, 1]) (pf 17 [9]) := ⟨ex_div, 1, pf_deg k17 [1, 1], by decide +kernel, pf_deg k17 [9]⟩
    obtain ⟨e1, e2⟩ := hd.unique (fld k17) hu (pf_deg k17 [16, 1]) hd2
    exact ⟨i1.same (is_of ⟨by decide, by decide⟩) fun _ => e1, i2.same (is_of ⟨by decide, by decide⟩) fun _ => e2, he⟩
theorem ex_inter {r : List Int} {er : Int} (h : (known 17 = false ∧ r = [] ∧ er = 7) ∨ (known 17 = true ∧ (([0, 1, 2] : List Int).length ≠ ([1, 2, 5] : List Int).length ∨ diffB 17 [0, 1, 2] = false) ∧ r = [] ∧ er = 1) ∨
    (known 17 = true ∧ ([0, 1, 2] : List Int).length = ([1, 2, 5] : List Int).length ∧ diffB 17 [0, 1, 2] = true ∧ er = 0 ∧ ∃ F, Is 17 r F ∧ Lag 17 [0, 1, 2] [1, 2, 5] ([0, 1, 2] : List Int).length F)) : r = [1, 0, 1] ∧ er = 0 := by
  rcases h with ⟨h, _⟩ | ⟨_, h, _⟩ | ⟨_, _, _, he, F, i1, hl⟩
  · exact absurd h (by decide)
  · rcases h with h | h
    · exact absurd rfl h
    · exact absurd h (by decide)
  · exact ⟨i1.same (is_of ⟨by decide, by decide⟩) fun _ => ex_int F hl, he⟩
instance : U 5 := ⟨by decide, by decide⟩
instance : U 8 := ⟨by decide, by decide⟩
instance : U 9 := ⟨by decide, by decide⟩
instance : U 14 := ⟨by decide, by decide⟩
instance : U 16 := ⟨by decide, by decide⟩
theorem lit3 (w : World) (c d e : Int) [hc : U c] [hd : U d] [he : U e] : Lst (w.alloc (.cells #[.int .u64 c, .int .u64 d, .int .u64 e] 22)) (.slice (some ⟨w.heap.size, 0, none⟩) 3 3) [c, d, e] :=
  ⟨.inr ⟨_, _, rfl⟩, fun i hi => by
    match i, hi with
    | 0, _ => exact ⟨_, _, _, rfl, by go_simp⟩
    | 1, _ => exact ⟨_, _, _, rfl, by go_simp⟩
    | 2, _ => exact ⟨_, _, _, rfl, by go_simp⟩, fun y hy => by
      simp at hy
      rcases hy with rfl | rfl | rfl
      · exact hc
      · exact hd
      · exact he, fun a n k e => by cases e; exact Nat.le_refl _⟩
theorem lit1b (w : World) (b : Nat) (hb : b = w.heap.size) (c : Int) [hc : U c] : Lst (w.alloc (.cells #[.int .u64 c] 22)) (.slice (some ⟨b, 0, none⟩) 1 1) [c] := by subst hb; exact lit1 w c
theorem lit2b (w : World) (b : Nat) (hb : b = w.heap.size) (c d : Int) [hc : U c] [hd : U d] : Lst (w.alloc (.cells #[.int .u64 c, .int .u64 d] 22)) (.slice (some ⟨b, 0, none⟩) 2 2) [c, d] := by subst hb; exact lit2 w c d
theorem lit3b (w : World) (b : Nat) (hb : b = w.heap.size) (c d e : Int) [hc : U c] [hd : U d] [he : U e] : Lst (w.alloc (.cells #[.int .u64 c, .int .u64 d, .int .u64 e] 22)) (.slice (some ⟨b, 0, none⟩) 3 3) [c, d, e] := by subst hb; exact lit3 w c d e
theorem Lst.more {w : World} {v : Value} {l : List Int} (h : Lst w v l) (o : Obj) : Lst (w.alloc o) v l := h.hold ((Below.refl _ _).alloc (Nat.le_refl _) _)

end Go.Proofs.Ytgdnkbigdggbaaa
