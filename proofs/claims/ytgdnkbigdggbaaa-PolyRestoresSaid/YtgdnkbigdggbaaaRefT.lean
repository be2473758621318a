/- The walks of the reference's test whether points are different, of the product of all X - x, of the interpolation. -/
import Derived.Test.YtgdnkbigdggbaaaRefS
import Derived.Test.YtgdnkbigdggbaaaBwAt
namespace Go.Proofs.Ytgdnkbigdggbaaa
open Go.RowKit Go.BigFrame

/-- Are the points different modulo p? -/
def diffB (p : Int) (l : List Int) : Bool := decide (∀ i, i < l.length → ∀ k, k < i → sb p (l.getD i 0) (l.getD k 0) ≠ 0)
theorem diff_no {p : Int} {l : List Int} {i k : Nat} (hi : i < l.length) (hk : k < i) (h : sb p (l.getD i 0) (l.getD k 0) = 0) : diffB p l = false := by
  unfold diffB
  rw [decide_eq_false_iff_not]
  exact fun hh => hh i hi k hk h
theorem diff_yes {p : Int} {l : List Int} (h : ∀ i, i < l.length → ∀ k, k < i → sb p (l.getD i 0) (l.getD k 0) ≠ 0) : diffB p l = true := by
  unfold diffB
  exact decide_eq_true h

set_option maxHeartbeats 8000000 in
theorem sDifferent_u (p : Int) [hU : U p] (v : Value) (l : List Int) (w : World) (hl : Lst w v l) (hn : l.length ≤ 1000) :
    Calls Try.prog 37 #[.int .u64 p, v] w fun e w' => e = .returned (.bool (diffB p l)) ∧ Below w.heap.size w w' := by
  obtain ⟨a0, c0, rfl⟩ := hl.shape
  have HL := Lib.hid hl
  clear hl
  go_enter Try.func37, Try.ntmps37
  go_wp2
  go_loopw [5] (fun iv wr => ∃ i : Nat, iv = .int .i64 i ∧ i ≤ l.length ∧ (∀ j, j < i → ∀ k, k < j → sb p (l.getD j 0) (l.getD k 0) ≠ 0) ∧ Below w.heap.size w wr) (fun iv _ => l.length - (intOf iv).toNat)
  case atStart => exact ⟨0, rfl, Nat.zero_le _, fun j hj => by omega, Below.refl _ _⟩
  case round =>
    obtain ⟨i, rfl, hi, hd, hb⟩ := hrel
    have HD := Lib.hid hd
    have HB := Lib.hid hb
    clear hd hb
    have i0 : (0 : Int) ≤ (i : Int) := by omega
    have i2 : (l.length : Int) ≤ 1000 := by omega
    by_cases hlt : i < l.length
    · have i1 : (i : Int) < (l.length : Int) := by omega
      go_wp2
      go_loopw [6] (fun kv wk => ∃ k : Nat, kv = .int .i64 k ∧ k ≤ i ∧ (∀ j, j < k → sb p (l.getD i 0) (l.getD j 0) ≠ 0) ∧ Below w.heap.size w wk) (fun kv _ => i - (intOf kv).toNat)
      case atStart => exact ⟨0, rfl, Nat.zero_le _, fun j hj => by omega, HB.out⟩
      case round =>
        obtain ⟨k, rfl, hk, he, hb⟩ := hrel
        have HE := Lib.hid he
        have HB2 := Lib.hid hb
        clear he hb
        have k0 : (0 : Int) ≤ (k : Int) := by omega
        by_cases hki : k < i
        · have k1 : (k : Int) < (l.length : Int) := by omega
          obtain ⟨b1, o1, d1, e1, g1⟩ := (HL.out.hold HB2.out).cells i hlt
          obtain ⟨b2, o2, d2, e2, g2⟩ := (HL.out.hold HB2.out).cells k (by omega)
          obtain ⟨rfl, rfl⟩ : a0 = some ⟨b1, o1, none⟩ ∧ c0 = d1 := by simp at e1; exact e1
          obtain ⟨⟨rfl, rfl⟩, rfl⟩ : (b1 = b2 ∧ o1 = o2) ∧ c0 = d2 := by simp at e2; exact e2
          have hu1 := HL.out.us l[i] (List.getElem_mem _)
          have hu2 := HL.out.us l[k] (List.getElem_mem _)
          have m1 := fun q : NwAt wr => q.nw.hold g1
          have m2 := fun q : NwAt wr => q.nw.hold g2
          have ge1 : l.getD i 0 = l[i] := getD_lt _ hlt
          have ge2 : l.getD k 0 = l[k] := getD_lt _ (by omega)
          have HG := Lib.hid (And.intro ge1 ge2)
          clear e1 e2 ge1 ge2 g1 g2
          cases hz : (sb p l[i] l[k] == 0)
          · go_upto_region 7 with fail
            refine from_here ?_
            intro q
            refine wp_region_nw (by kernel_rfl) (by kernel_rfl) ?_
            repeat (go_big_quiet_step ((go_at_call 42; exact nwAt_of (rSub_u _ _ _ _))))
            refine wpQuiet_nil ?_
            clear q
            rintro _ ⟨q, rfl⟩
            have hz2 : sb p (l.getD i 0) (l.getD k 0) ≠ 0 := by
              rw [HG.out.1, HG.out.2]; intro h; rw [h] at hz; simp at hz
            have HZ := Lib.hid hz2
            clear hz2
            go_wp2
            refine ⟨⟨k + 1, by go_num, by omega, fun j hj => ?_, Below.next (Nat.le_refl _) HB2.out q.nw.b⟩, by simp [intOf]; omega⟩
            rcases Nat.lt_or_eq_of_le (Nat.le_of_lt_succ hj) with h | h
            · exact HE.out j h
            · rw [h]; exact HZ.out
          · go_upto_region 7 with fail
            refine from_here ?_
            intro q
            refine wp_region_nw (by kernel_rfl) (by kernel_rfl) ?_
            repeat (go_big_quiet_step ((go_at_call 42; exact nwAt_of (rSub_u _ _ _ _))))
            refine wpQuiet_nil ?_
            clear q
            rintro _ ⟨q, rfl⟩
            have HZ := Lib.hid (diff_no hlt hki (by rw [HG.out.1, HG.out.2]; simpa using hz))
            go_wp2
            go_ret
            exact ⟨by rw [HZ.out]; rfl, Below.next (Nat.le_refl _) HB2.out q.nw.b⟩
        · obtain rfl : k = i := by omega
          go_wp2
          refine ⟨⟨k + 1, by go_num, by omega, fun j hj => ?_, HB2.out⟩, by simp [intOf]; omega⟩
          rcases Nat.lt_or_eq_of_le (Nat.le_of_lt_succ hj) with h | h
          · exact HD.out j h
          · rw [h]; exact HE.out
    · have hY := Lib.hid (diff_yes (p := p) (l := l) (by have := HD.out; rwa [show i = l.length by omega] at this))
      go_wp2
      go_ret
      exact ⟨by rw [hY.out]; rfl, HB.out⟩

theorem lit2 (w : World) (c d : Int) [hc : U c] [hd : U d] : Lst (w.alloc (.cells #[.int .u64 c, .int .u64 d] 22)) (.slice (some ⟨w.heap.size, 0, none⟩) 2 2) [c, d] :=
  ⟨.inr ⟨_, _, rfl⟩, fun i hi => by
    match i, hi with
    | 0, _ => exact ⟨_, _, _, rfl, by go_simp⟩
    | 1, _ => exact ⟨_, _, _, rfl, by go_simp⟩, fun y hy => by
      simp at hy
      rcases hy with rfl | rfl
      · exact hc
      · exact hd, fun a n k e => by cases e; exact Nat.le_refl _⟩
theorem pf_xm {p : Int} (hk : known p = true) (x : Int) : pf p [sb p 0 x, rd p 1] = Po.xm (ph p x) := funext fun i => by
  match i with
  | 0 => show ph p (sb p 0 x) = 0 - ph p x; rw [ph_sb hk, ph_zero hk]
  | 1 => show ph p (rd p 1) = 1; rw [ph_rd hk, ph_one hk]
  | i + 2 => show ph p _ = 0; rw [getD_ge _ (by simp), ph_zero hk]
theorem van_len {p : Int} {r : List Int} {xs : List (Fin (Q p))} (h : Is p r (Po.van xs)) : r.length ≤ xs.length + 1 := h.bound fun _ => (Po.van_deg xs).1

set_option maxHeartbeats 4000000 in
theorem sVanishing_p (p : Int) [hU : U p] (v : Value) (l : List Int) (w : World) (hl : Lst w v l) (hn : l.length ≤ 900) :
    Calls Try.prog 41 #[.int .u64 p, v] w (Poly p (Po.van (l.map (ph p))) w) := by
  obtain ⟨a0, c0, rfl⟩ := hl.shape
  have HL := Lib.hid hl
  clear hl
  go_enter Try.func41, Try.ntmps41
  go_wp2_with fail
  refine (sTrim_p p _ [1] _ (lit1 w 1) (by simp)).mono ?_
  rintro _ w1 ⟨v1, r1, rfl, hown1, his1, hb1⟩
  have H1 := Lib.hid (And.intro (hown1.low (base' := w.heap.size) (by simp)) (his1.eq (g := Po.van []) fun hk => by rw [pf_one hk, ph_one hk]; rfl))
  have HB1 := Lib.hid (Below.next (Nat.le_refl _) ((Below.refl _ _).alloc (Nat.le_refl _) (.cells #[.int .u64 1] 22)) hb1)
  clear hown1 his1 hb1
  go_wp2
  go_loopw [5, 6] (fun v iv wr => ∃ (k : Nat) (r : List Int), iv = .int .i64 k ∧ k ≤ l.length ∧ Own wr w.heap.size v r ∧ Is p r (Po.van ((l.take k).map (ph p))) ∧ Below w.heap.size w wr) (fun _ iv _ => l.length - (intOf iv).toNat)
  case atStart => exact ⟨0, r1, rfl, Nat.zero_le _, H1.out.1, H1.out.2, HB1.out⟩
  case round =>
    obtain ⟨k, r, rfl, hk, hown, his, hb⟩ := hrel
    have hrl : r.length ≤ 901 := by have := van_len his; simp at this; omega
    have HO := Lib.hid (And.intro hown his)
    have HB := Lib.hid hb
    clear hown his hb
    have i0 : (0 : Int) ≤ (k : Int) := by omega
    have i2 : (l.length : Int) ≤ 900 := by omega
    by_cases hlt : k < l.length
    · obtain ⟨bb, o, c, e, hc⟩ := (HL.out.hold HB.out).cells k hlt
      have hux := HL.out.us l[k] (List.getElem_mem hlt)
      obtain ⟨rfl, rfl⟩ : a0 = some ⟨bb, o, none⟩ ∧ c0 = c := by simp at e; exact e
      clear e
      have i1 : (k : Int) < (l.length : Int) := by omega
      go_wp2_with fail
      refine (rNeg_u _ _ _).mono ?_
      rintro _ w2 ⟨rfl, hb2⟩
      go_wp2_with fail
      refine (rReduce_u _ _ _).mono ?_
      rintro _ w3 ⟨rfl, hb3⟩
      have HB3 := Lib.hid (Below.next (Nat.le_refl _) hb2.b hb3.b)
      clear hb2 hb3 hc
      go_wp2_with fail
      have hmade : Below w3.heap.size w3 (w3.alloc (.cells #[.int .u64 (sb p 0 l[k]), .int .u64 (rd p 1)] 22)) := (Below.refl _ _).alloc (Nat.le_refl _) _
      refine (sMul_p p _ _ [sb p 0 l[k], rd p 1] r _ (lit2 w3 _ _) ((HO.out.1.hold HB3.out).hold hmade).lst (by simp) (by omega)).mono ?_
      rintro _ w4 ⟨v4, r4, rfl, hown4, his4, hb4⟩
      have hz : w.heap.size ≤ (w3.alloc (.cells #[.int .u64 (sb p 0 l[k]), .int .u64 (rd p 1)] 22)).heap.size := by
        have := HB.out.size; have := HB3.out.size; have := hmade.size; omega
      have H4 := Lib.hid (And.intro (hown4.low (base' := w.heap.size) hz) (his4.eq (g := Po.van ((l.take (k + 1)).map (ph p))) fun hk => by
        rw [pf_xm hk, HO.out.2.pf hk, take_snoc hlt, List.map_append]
        exact (Po.van_snoc _ _).symm))
      have HB4 := Lib.hid (Below.next (Nat.le_refl _) HB.out (Below.next (Nat.le_refl _) HB3.out (Below.next (Nat.le_refl _) hmade hb4)))
      clear hown4 his4 hb4 hmade hz
      go_wp2
      exact ⟨⟨k + 1, r4, by go_num, by omega, H4.out.1, H4.out.2, HB4.out⟩, by simp [intOf]; omega⟩
    · obtain rfl : k = l.length := by omega
      have HI := Lib.hid (show Is p r (Po.van (l.map (ph p))) by have := HO.out.2; rwa [List.take_length] at this)
      go_wp2
      go_ret
      exact ⟨_, r, rfl, HO.out.1, HI.out, HB.out⟩
end Go.Proofs.Ytgdnkbigdggbaaa
