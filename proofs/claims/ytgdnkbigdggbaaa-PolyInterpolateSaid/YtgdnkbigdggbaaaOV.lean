/- The walk of package poly's Vanishing. -/
import Derived.Test.YtgdnkbigdggbaaaOC
import Derived.Test.YtgdnkbigdggbaaaRefS
namespace Go.Proofs.Ytgdnkbigdggbaaa
open Go.RowKit Go.BigFrame

theorem van_is {p : Int} (hk : known p = true) {r : List Int} {zs : List (Fin (Q p))} (hl : r.length = zs.length + 1) (hr : ∀ y ∈ r, 0 ≤ y ∧ y < p) (h : pf p r = Po.van zs) : Is p r (Po.van zs) := by
  unfold Is
  rw [if_pos hk]
  refine ⟨⟨hr, fun hne h0 => ?_⟩, h⟩
  have h1 := (Po.van_deg zs).2
  rw [← h, pf_at r (by omega)] at h1
  rw [List.getLast_eq_getElem] at h0
  have e : r[r.length - 1] = r[zs.length] := by congr 1; omega
  rw [e] at h0
  rw [h0, ph_zero hk, ← ph_zero hk, ← ph_one hk, ph_eq hk] at h1
  have := known_lo hk
  rw [Int.emod_eq_of_lt (a := 1) (by omega) (by omega), Int.zero_emod] at h1
  omega

set_option maxHeartbeats 4000000 in
theorem oVanishing_any (p : Int) (v : Value) (l : List Int) (w : World) (hl : Lst w v l) (hn : l.length ≤ 800) :
    Calls Try.prog 40 #[.agg #[.int .u64 p], v] w (Poly p (Po.van (l.map (ph p))) w) := by
  obtain ⟨a0, c0, rfl⟩ := hl.shape
  have HL := Lib.hid hl
  clear hl
  by_cases hk : known p = true
  · have HK := Lib.hid hk
    clear hk
    have i2 : (l.length : Int) ≤ 800 := by omega
    go_enter Try.func40, Try.ntmps40
    go_upto_region 3 with (go_at_call 58; refine (valid_any _ _).mono ?_; rintro e w1 ⟨rfl, hb1⟩; rw [HK.out])
    have hf : w1.cell? ⟨w.heap.size, 0, none⟩ = some (.int .u64 p) := hb1.hold (by go_simp)
    have hb : Below w.heap.size w w1 := Below.next (Nat.le_refl _) (Below.made (Nat.le_refl _) (Below.refl _ _) _) hb1.b
    have hsz : w.heap.size < w1.heap.size := by have := hb1.b.size; simp at this; omega
    have HB := Lib.hid (And.intro hb hsz)
    clear hb1 hb hsz
    go_wp2
    go_loopw [5, 14] (fun pv iv wr => ∃ (k g c : Nat) (r : List Int), pv = .slice (some ⟨g, 0, none⟩) (k + 1) c ∧ iv = .int .i64 k ∧ k ≤ l.length ∧ wr.cell? ⟨w.heap.size, 0, none⟩ = some (.int .u64 p) ∧ Own wr w1.heap.size (.slice (some ⟨g, 0, none⟩) (k + 1) c) r ∧ (∀ y ∈ r, 0 ≤ y ∧ y < p) ∧ pf p r = Po.van ((l.take k).map (ph p)) ∧ Below w1.heap.size w1 wr) (fun _ iv _ => l.length - (intOf iv).toNat)
    case atStart =>
      refine ⟨0, _, _, [1], rfl, rfl, Nat.zero_le _, Below.hold (Below.made (Nat.le_refl _) (Below.refl _ _) _) hf, ?_, ?_, ?_, Below.made (Nat.le_refl _) (Below.refl _ _) _⟩
      · exact own_of (l := [1]) (Nat.le_refl _) (by simpa [vs] using heap_alloc_new w1 (.cells #[.int .u64 1] 22)) (by simp) (fun y hy => by simp at hy; subst hy; infer_instance)
      · intro y hy; simp at hy; subst hy; have := known_lo HK.out; omega
      · rw [pf_one HK.out, ph_one HK.out]; rfl
    case round =>
      obtain ⟨k, g, c, r, rfl, rfl, hk, hp, hown, hr, hv, hb⟩ := hrel
      have hrl := hown.len
      by_cases hlt : k < l.length
      · obtain ⟨bb, ob, cb, e, hc⟩ := ((HL.out.hold HB.out.1).hold hb).cells k hlt
        obtain ⟨rfl, rfl⟩ : a0 = some ⟨bb, ob, none⟩ ∧ c0 = cb := by simp at e; exact e
        clear e
        have hux := HL.out.us l[k] (List.getElem_mem hlt)
        have hvs : (l.take (k + 1)).map (ph p) = (l.take k).map (ph p) ++ [ph p l[k]] := by rw [take_snoc hlt, List.map_append]; rfl
        obtain ⟨x, hx⟩ : ∃ x, x = l[k] := ⟨_, rfl⟩
        rw [← hx] at hux hc hvs
        have i0 : (0 : Int) ≤ (k : Int) := by omega
        have i1 : (k : Int) < (l.length : Int) := by omega
        have HW := Lib.hid (And.intro hown (And.intro hv (And.intro hb (And.intro hr (And.intro hrl hvs)))))
        clear hown hv hb hr hrl hvs hx
        go_wp2_with (go_at_call 65; refine (timesRoot_w p x w1.heap.size _ r _ HW.out.1 HW.out.2.2.1.size (by have := HW.out.2.2.2.2.1; omega)).mono ?_; rintro _ w2 ⟨g2, c2, rfl, hown2, hgc2, hg2⟩)
        have hrl := HW.out.2.2.2.2.1
        rw [hrl] at hown2 ⊢
        have hgl := HW.out.1.row.lt g rfl
        refine ⟨⟨k + 1, g2, c2, _, rfl, by go_num, by omega, grown_cell hg2 hp (by intro e; have h4 : w1.heap.size ≤ w.heap.size := (HW.out.1.row.lt _ e.symm).1; have := HB.out.2; omega), hown2, trL_bd HK.out x r, ?_, Below.wrote HW.out.2.2.1 (Nat.le_refl _) HW.out.2.2.1.size HW.out.1 hg2⟩, by simp [intOf]; omega⟩
        rw [HW.out.2.2.2.2.2, Po.van_snoc, pf_trL HK.out, HW.out.2.1]
      · obtain rfl : k = l.length := by omega
        rw [List.take_length] at hv
        have HW := Lib.hid (And.intro hown (And.intro hv (And.intro hb (And.intro hr hrl))))
        clear hown hv hb hr hrl
        go_wp2
        go_ret
        exact ⟨_, r, rfl, HW.out.1.low (by have := HB.out.2; omega), van_is HK.out (by rw [HW.out.2.2.2.2, List.length_map]) HW.out.2.2.2.1 HW.out.2.1, Below.next (Nat.le_refl _) HB.out.1 HW.out.2.2.1⟩
  · have hk : known p = false := by simpa using hk
    have HK := Lib.hid hk
    clear hk
    go_enter Try.func40, Try.ntmps40
    go_wp2_with (go_at_call 58; refine (valid_any _ _).mono ?_; rintro e w1 ⟨rfl, hb1⟩; rw [HK.out])
    go_ret
    exact ⟨_, [], rfl, Own.nil _ _, is_unknown HK.out _, Below.next (Nat.le_refl _) (Below.made (Nat.le_refl _) (Below.refl _ _) _) hb1.b⟩
end Go.Proofs.Ytgdnkbigdggbaaa
