/- The walks of the reference's small functions on lists: the normal form, the degree, a coefficient. -/
import Derived.Test.YtgdnkbigdggbaaaLst
import Derived.Test.YtgdnkbigdggbaaaPolyB
namespace Go.Proofs.Ytgdnkbigdggbaaa
open Go.RowKit

/-- A new list is returned. -/
def Gives (w : World) (l : List Int) (e : Ending) (w' : World) : Prop := ∃ v, e = .returned v ∧ Own w' w.heap.size v l ∧ Below w.heap.size w w'
theorem cut0_len (l : List Int) : (cut0 l).length ≤ l.length := by
  unfold cut0
  rw [List.length_reverse]
  exact Nat.le_trans (List.dropWhile_sublist _).length_le (by simp)
def lenOf : Value → Nat
  | .slice _ n _ => n
  | _ => 0
theorem us_map {f : Int → Int} (l : List Int) (h : ∀ x, U (f x)) : Us (l.map f) := fun y hy => by
  obtain ⟨x, _, rfl⟩ := List.mem_map.1 hy; exact h x

set_option maxHeartbeats 4000000 in
theorem sTrim_u (p : Int) (v : Value) (l : List Int) (w : World) (hl : Lst w v l) (hn : l.length ≤ 100000) :
    Calls Try.prog 16 #[.int .u64 p, v] w (Gives w (cut0 (l.map (rd p)))) := by
  obtain ⟨a0, c0, rfl⟩ := hl.shape
  have HL := Lib.hid hl
  clear hl
  go_enter Try.func16, Try.ntmps16
  go_wp2
  go_loopw [5, 6] (fun v iv wr => ∃ k : Nat, iv = .int .i64 k ∧ k ≤ l.length ∧ Own wr w.heap.size v ((l.take k).map (rd p)) ∧ Below w.heap.size w wr) (fun _ iv _ => l.length - (intOf iv).toNat)
  case atStart => exact ⟨0, rfl, Nat.zero_le _, Own.nil _ _, Below.refl _ _⟩
  case round =>
    obtain ⟨k, rfl, hk, hown, hb⟩ := hrel
    by_cases hlt : k < l.length
    · obtain ⟨b, o, c, e, hc⟩ := (HL.out.hold hb).cells k hlt
      have hux := HL.out.us l[k] (List.getElem_mem hlt)
      obtain ⟨rfl, rfl⟩ : a0 = some ⟨b, o, none⟩ ∧ c0 = c := by simp at e; exact e
      clear e
      have i0 : (0 : Int) ≤ (k : Int) := by omega
      have i1 : (k : Int) < (l.length : Int) := by omega
      have i2 : (l.length : Int) ≤ 100000 := by omega
      have HO := Lib.hid hown
      have HB := Lib.hid hb
      clear hown hb
      go_wp2_with (first
        | (go_at_call 38; refine (rReduce_u _ _ _).mono ?_; rintro _ w1 ⟨rfl, hb1⟩)
        | (at_builtin; refine append_one rfl (.tmp 13) (.tmp 20) rfl w.heap.size _ _ rfl (HO.out.hold hb1.b) _ inferInstance rfl (by simp; omega) (Nat.le_trans HB.out.size hb1.b.size) ?_; intro v' w' hown' hb'))
      refine ⟨⟨k + 1, by go_num, by omega, ?_, ?_⟩, by simp [intOf]; omega⟩
      · rw [take_snoc hlt, List.map_append]; exact hown'
      · exact (Below.next (Nat.le_refl _) HB.out hb1.b).trans hb'
    · obtain rfl : k = l.length := by omega
      rw [List.take_length] at hown
      go_wp2
      go_loopw [5] (fun v wr => ∃ m : List Int, cut0 m = cut0 (l.map (rd p)) ∧ m.length ≤ 100000 ∧ Own wr w.heap.size v m ∧ Below w.heap.size w wr) (fun v _ => lenOf v)
      case atStart => exact ⟨_, rfl, by simp; omega, hown, hb⟩
      case round =>
        clear hown hb
        obtain ⟨m, hm, hml, hown, hb⟩ := hrel
        rcases hown.cases with ⟨rfl, rfl⟩ | ⟨g, cap, rfl, _, _, hcap, hcm⟩
        · go_wp2
          go_ret
          exact ⟨_, rfl, by rw [← hm]; exact hown, hb⟩
        · obtain rfl | ⟨m', x, rfl⟩ : m = [] ∨ ∃ m' x, m = m' ++ [x] := by
            rcases List.eq_nil_or_concat m with h | ⟨m', x, h⟩
            · exact .inl h
            · exact .inr ⟨m', x, by simpa using h⟩
          · have HO := Lib.hid hown
            have HB := Lib.hid hb
            have HM := Lib.hid hm
            clear hown hb hm
            go_wp2
            go_ret
            exact ⟨_, rfl, by rw [← HM.out]; exact HO.out, HB.out⟩
          · have hL : (m' ++ [x]).length = m'.length + 1 := by simp
            have hx : wr.cell? ⟨g, m'.length, none⟩ = some (.int .u64 x) := by
              rw [hown.row.cellAt m'.length (by simp)]
              simp [vs]
            rw [hL] at hown hcap hml
            rw [hL]
            have i2 : (m'.length : Int) ≤ 100000 := by omega
            have HO := Lib.hid hown
            have HB := Lib.hid hb
            have HM := Lib.hid hm
            clear hown hb hm hL
            by_cases h0 : x = 0
            · subst h0
              go_wp2
              exact ⟨⟨m', by rw [← HM.out, cut0_snoc_zero], by omega, HO.out.pop, HB.out⟩, by simp [lenOf]⟩
            · have hx0 : (x == 0) = false := by simpa using h0
              go_wp2
              go_ret
              exact ⟨_, rfl, by rw [← HM.out, cut0_snoc _ h0]; exact HO.out, HB.out⟩

set_option maxHeartbeats 1000000 in
theorem sDegree_u (p : Int) (v : Value) (l : List Int) (w : World) (hl : Lst w v l) (hn : l.length ≤ 100000) :
    Calls Try.prog 18 #[.int .u64 p, v] w fun e w' => e = .returned (.int .i64 ((cut0 (l.map (rd p))).length - 1)) ∧ Below w.heap.size w w' := by
  have hlen := cut0_len (l.map (rd p))
  rw [List.length_map] at hlen
  have ht := sTrim_u p v l w hl hn
  obtain ⟨m, hm⟩ : ∃ m, m = cut0 (l.map (rd p)) := ⟨_, rfl⟩
  rw [← hm] at hlen ht ⊢
  have HT := Lib.hid ht
  clear hl ht hm
  go_enter Try.func18, Try.ntmps18
  go_wp2_with fail
  refine HT.out.mono ?_
  rintro _ w1 ⟨v', rfl, hown, hb⟩
  obtain ⟨a, c, rfl⟩ := hown.lst.shape
  have i2 : (m.length : Int) ≤ 100000 := by omega
  clear hown
  have HB := Lib.hid hb
  clear hb
  go_wp2
  go_ret
  exact ⟨rfl, HB.out⟩

set_option maxHeartbeats 1000000 in
theorem sAt_u (v : Value) (l : List Int) (i : Nat) (w : World) (hl : Lst w v l) (hn : l.length ≤ 100000) (hi : i ≤ 1000000) :
    Calls Try.prog 50 #[v, .int .i64 i] w fun e w' => e = .returned (.int .u64 (l.getD i 0)) ∧ Below w.heap.size w w' := by
  obtain ⟨a0, c0, rfl⟩ := hl.shape
  have i0 : (0 : Int) ≤ (i : Int) := by omega
  have i2 : (l.length : Int) ≤ 100000 := by omega
  by_cases h : i < l.length
  · obtain ⟨b, o, c, e, hc⟩ := hl.cells i h
    obtain ⟨rfl, rfl⟩ : a0 = some ⟨b, o, none⟩ ∧ c0 = c := by simp at e; exact e
    rw [getD_lt _ h]
    have i1 : (i : Int) < (l.length : Int) := by omega
    clear hl e
    go_enter Try.func50, Try.ntmps50
    go_wp2
    go_ret
    exact ⟨rfl, Below.refl _ _⟩
  · rw [getD_ge _ (by omega)]
    have i1 : (l.length : Int) ≤ (i : Int) := by omega
    clear hl
    go_enter Try.func50, Try.ntmps50
    go_wp2
    go_ret
    exact ⟨rfl, Below.refl _ _⟩
end Go.Proofs.Ytgdnkbigdggbaaa
