/- The walks of package poly's trim and Trim, and of slices.Clone. -/
import Derived.Test.YtgdnkbigdggbaaaOD
import Derived.Lib.SliceRun
import Derived.Deep.DeepCutAuto
import Derived.Deep.RegionHeld3
namespace Go.Proofs.Ytgdnkbigdggbaaa
open Go.RowKit

theorem empty_own (W : World) (base : Nat) (hb : base ≤ W.heap.size) : Own (W.alloc (.cells #[] 22)) base (.slice (some ⟨W.heap.size, 0, none⟩) 0 0) [] :=
  ⟨World.ownsRow_made W #[] 0 hb (by unfold maxLen; omega) rfl, us_nil⟩

set_option maxHeartbeats 1000000 in
theorem clone_u (v : Value) (l : List Int) (w : World) (hl : Lst w v l) (hn : l.length ≤ 100000) : Calls Try.prog 45 #[v] w (Gives w l) := by
  have HL := Lib.hid hl
  have qn : ∀ (w : World) (a : Option Addr) (n c n' c' : Nat), (binOp .eql 23 (.slice a n c) (.slice none n' c')).run Try.prog w = .ok (.bool a.isNone) w := fun w a n c n' c' => Lib.run_eql_slice_nil w _ _ a n c n' c' Try.underlying23
  rcases hl.form with ⟨rfl, rfl⟩ | ⟨ad, c, rfl⟩
  · clear hl
    go_enter Try.func45, Try.ntmps45
    go_wp2
    go_ret
    exact ⟨_, rfl, Own.nil _ _, Below.refl _ _⟩
  · clear hl
    go_enter Try.func45, Try.ntmps45
    go_wp2_with (at_builtin; refine append_all rfl (.tmp 5) (.tmp 6) rfl w.heap.size _ _ rfl (empty_own _ _ (Nat.le_refl _)) _ l rfl (HL.out.hold (Below.made (Nat.le_refl _) (Below.refl _ _) _)) (by simp) (by omega) (by simp) ?_; intro v' w' hown' hb')
    go_ret
    exact ⟨_, rfl, by simpa using hown', (Below.made (Nat.le_refl _) (Below.refl _ _) _).trans hb'⟩

/-- trim, in the memory of its argument. -/
def Trimmed (p : Int) (base : Nat) (v : Value) (l : List Int) (w : World) (e : Ending) (w' : World) : Prop :=
  ∃ v', e = .returned v' ∧ v'.ownBlock = v.ownBlock ∧ Own w' base v' (cut0 (l.map (rd p))) ∧ w.grownBy w' v.ownBlock

/-- The first k elements reduced. -/
def redK (p : Int) (l : List Int) (k : Nat) : List Int := (l.take k).map (rd p) ++ l.drop k
theorem redK_len (p : Int) (l : List Int) (k : Nat) : (redK p l k).length = l.length := by simp [redK]; omega
theorem redK_at {p : Int} {l : List Int} {k : Nat} (h : k < l.length) : (redK p l k)[k]? = some l[k] := by
  rw [redK, List.getElem?_append_right (by simp; omega)]
  simp [List.length_take, Nat.min_eq_left (Nat.le_of_lt h), h]
theorem redK_set {p : Int} {l : List Int} {k : Nat} (h : k < l.length) : (redK p l k).set k (rd p l[k]) = redK p l (k + 1) := by
  have h1 : ((l.take k).map (rd p)).length = k := by simp; omega
  rw [redK, List.set_append_right _ _ (by omega), h1, Nat.sub_self, redK, take_snoc h, List.map_append, List.append_assoc, List.drop_eq_getElem_cons h]
  rfl
theorem redK_end (p : Int) (l : List Int) : redK p l l.length = l.map (rd p) := by simp [redK]
theorem rd_rd (p x : Int) : rd p (rd p x) = rd p x := by
  by_cases hk : known p = true
  · rw [rd, if_pos hk, rd, if_pos hk, Int.emod_emod]
  · rw [rd, if_neg hk, rd, if_neg hk]
theorem cut0_take (l : List Int) : l.take (cut0 l).length = cut0 l := by
  refine snoc_induct (P := fun l => l.take (cut0 l).length = cut0 l) rfl ?_ l
  intro m x ih
  by_cases hx : x = 0
  · subst hx
    rw [cut0_snoc_zero, List.take_append_of_le_length (cut0_len m)]; exact ih
  · rw [cut0_snoc m hx, List.take_length]

set_option maxHeartbeats 4000000 in
theorem trim_w (p : Int) (base : Nat) (v : Value) (l : List Int) (w : World) (hown : Own w base v l) (hn : l.length ≤ 1000) :
    Calls Try.prog 44 #[.agg #[.int .u64 p], v] w (Trimmed p base v l w) := by
  rcases hown.cases with ⟨rfl, rfl⟩ | ⟨g, cap, rfl, hbg, hgw, hlc, hcm⟩
  · clear hown
    go_enter Try.func44, Try.ntmps44
    go_wp2
    go_loopw [9] (fun iv wr => iv = .int .i64 0 ∧ wr.cell? ⟨w.heap.size, 0, none⟩ = some (.int .u64 p) ∧ Below w.heap.size w wr) (fun iv _ => 0)
    case atStart => exact ⟨rfl, by go_simp, Below.made (Nat.le_refl _) (Below.refl _ _) _⟩
    case round =>
      obtain ⟨rfl, hp, hb⟩ := hrel
      go_wp2_with (go_at_call 17; refine (oDegree_any p _ [] _ (Lst.nil _) (by simp)).mono ?_; rintro _ w1 ⟨rfl, hb1⟩; rw [show (((cut0 (List.map (rd p) [])).length : Nat) : Int) - 1 = -1 from rfl])
      go_ret
      exact ⟨_, rfl, rfl, Own.nil _ _, grown_below (Below.next (Nat.le_refl _) hb hb1)⟩
  · have HW := Lib.hid hown
    have hlc' : (l.length : Int) ≤ (cap : Int) := by omega
    clear hown
    go_enter Try.func44, Try.ntmps44
    go_wp2
    go_loopw [9] (fun iv wr => ∃ k : Nat, iv = .int .i64 k ∧ k ≤ l.length ∧ wr.cell? ⟨w.heap.size, 0, none⟩ = some (.int .u64 p) ∧ Own wr base (.slice (some ⟨g, 0, none⟩) l.length cap) (redK p l k) ∧ w.grownBy wr (some g)) (fun iv _ => l.length - (intOf iv).toNat)
    case atStart => exact ⟨0, rfl, Nat.zero_le _, by go_simp, HW.out.hold (Below.made (Nat.le_refl _) (Below.refl _ _) _), grown_below (Below.made (Nat.le_refl _) (Below.refl _ _) _)⟩
    case round =>
      obtain ⟨k, rfl, hk, hp, hown, hg⟩ := hrel
      have hz := hown.thawed k
      by_cases hlt : k < l.length
      · have hc : wr.cell? ⟨g, k, none⟩ = some (.int .u64 l[k]) := by
          rw [hown.cell (by rw [redK_len]; exact hlt)]
          have := redK_at (p := p) hlt
          rw [List.getElem?_eq_getElem (by rw [redK_len]; exact hlt)] at this
          simpa using this
        have hux := HW.out.us l[k] (List.getElem_mem hlt)
        have hgs := hown.row.lt g rfl
        have i0 : (0 : Int) ≤ (k : Int) := by omega
        have i1 : (k : Int) < (l.length : Int) := by omega
        have i2 : (l.length : Int) ≤ 1000 := by omega
        have hset := redK_set (p := p) hlt
        have HO := Lib.hid (And.intro hown (And.intro hg hset))
        clear hown hg hset
        go_wp2_with (go_at_call 47; refine (fReduce_u _ _ _).mono ?_; rintro _ w1 ⟨rfl, hb1⟩; have hc1 := hb1.hold hc; have hz1 := (hb1.f _).trans hz)
        have hs := (HO.out.1.hold hb1.b).set k (rd p l[k])
        refine ⟨⟨k + 1, by go_num, by omega, ?_, by rw [← HO.out.2.2]; exact hs.1, grown_trans (grown_next HO.out.2.1 hb1.b) hs.2⟩, by simp [intOf]; omega⟩
        rw [World.cell?_setCell_far _ _ _ _ (by show g ≠ w.heap.size; omega)]
        exact hb1.hold hp
      · obtain rfl : k = l.length := by omega
        rw [redK_end] at hown
        have HO := Lib.hid (And.intro hown hg)
        have hm : (cut0 ((l.map (rd p)).map (rd p))).length = (cut0 (l.map (rd p))).length := by
          rw [List.map_map]; congr 2; exact List.map_congr_left fun x _ => rd_rd p x
        have hle := cut0_len (l.map (rd p))
        obtain ⟨m, hm2⟩ : ∃ m, m = (cut0 (l.map (rd p))).length := ⟨_, rfl⟩
        rw [← hm2] at hm hle
        rw [List.length_map] at hle
        have i0 : (0 : Int) ≤ (m : Int) := by omega
        have i1 : (m : Int) ≤ (l.length : Int) := by omega
        have i2 : (l.length : Int) ≤ 1000 := by omega
        have i3 : (m : Int) ≤ (cap : Int) := by omega
        have HM := Lib.hid (And.intro hm hm2)
        clear hown hg hm hm2
        go_wp2_with (go_at_call 17; refine (oDegree_any p _ (l.map (rd p)) _ (by have := HO.out.1.lst; simpa using this) (by simp; omega)).mono ?_; rintro _ w1 ⟨rfl, hb1⟩; rw [HM.out.1])
        go_ret
        refine ⟨_, rfl, rfl, ?_, grown_next HO.out.2 hb1⟩
        have h := (HO.out.1.hold hb1).take (k := m) (by omega)
        rw [HM.out.2, cut0_take] at h
        rw [HM.out.2]; exact h

/-- A new list is returned: what 'Gives' says. -/
theorem oTrim_any (p : Int) (v : Value) (l : List Int) (w : World) (hl : Lst w v l) (hn : l.length ≤ 1000) : Calls Try.prog 15 #[.agg #[.int .u64 p], v] w (Gives w (cut0 (l.map (rd p)))) := by
  have HL := Lib.hid hl
  clear hl
  go_enter Try.func15, Try.ntmps15
  go_upto_region 1 with fail
  refine name_world ?_
  intro W hW
  have hf : W.cell? ⟨w.heap.size, 0, none⟩ = some (.int .u64 p) := by rw [hW]; go_simp
  have hb : Below w.heap.size w W := by rw [hW]; exact Below.made (Nat.le_refl _) (Below.refl _ _) _
  have HB := Lib.hid hb
  have HA := Lib.hid (HL.out.hold hb)
  have hcell := fun (w' : World) (h : Below W.heap.size W w') => Below.hold h hf
  have F := Below.refl W.heap.size W
  clear hW hf hb
  go_region_held3 (fun w' => Below W.heap.size W w')
    (repeat (first | assumption | refine Below.drew ?_ | refine Below.next (Nat.le_refl _) ?_ (by assumption)))
    (first
      | (go_at_call 45; refine (clone_u _ l _ (HA.out.hold (by assumption)) (by omega)).mono ?_; rintro _ w2 ⟨vC, rfl, hoC, hb2⟩)
      | (go_at_call 44; refine (trim_w p _ _ l _ hoC (by omega)).mono ?_; rintro _ w3 ⟨vT, rfl, _, hoT, hg⟩; have hb3 := Below.wrote hb2 (Nat.le_refl _) hb2.size hoC hg))
  all_goals
    go_wp2
    go_ret
    exact ⟨_, rfl, hoT.low (by have := HB.out.size; simpa using this), Below.next (Nat.le_refl _) HB.out (by assumption)⟩
end Go.Proofs.Ytgdnkbigdggbaaa
