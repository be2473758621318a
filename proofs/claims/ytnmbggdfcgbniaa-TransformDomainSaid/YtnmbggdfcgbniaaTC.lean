/- The walks of the reference's Same, Reduced, Interpolate. -/
import Derived.Test.YtnmbggdfcgbniaaTB
namespace Go.Proofs.Ytnmbggdfcgbniaa
open Go.RowKit Go.BigFrame
open Classical

theorem list_eq_iff {l m : List Int} (h : l.length = m.length) : l = m ↔ ∀ i, i < l.length → l.getD i 0 = m.getD i 0 := by
  constructor
  · rintro rfl i _; rfl
  · intro hh
    refine List.ext_getElem h fun i h1 h2 => ?_
    have := hh i h1
    rwa [getD_lt _ h1, getD_lt _ h2] at this

set_option maxHeartbeats 4000000 in
theorem uSame_u (va vb : Value) (l m : List Int) (w : World) (hla : Lst w va l) (hlb : Lst w vb m) (hnl : l.length ≤ 100000) (hnm : m.length ≤ 100000) :
    Calls Try.prog 15 #[va, vb] w fun e w' => e = .returned (.bool (decide (l = m))) ∧ Below w.heap.size w w' := by
  obtain ⟨a0, c0, rfl⟩ := hla.shape
  obtain ⟨a1, c1, rfl⟩ := hlb.shape
  have HL := Lib.hid (And.intro hla hlb)
  clear hla hlb
  have i1 : (l.length : Int) ≤ 100000 := by omega
  have i2 : (m.length : Int) ≤ 100000 := by omega
  by_cases hlen : l.length = m.length
  · have HN := Lib.hid hlen
    have hle : (m.length : Int) = (l.length : Int) := by omega
    have hlen2 := hlen.symm
    clear hlen
    go_enter Try.func15, Try.ntmps15
    go_wp2
    clear hle hlen2
    go_loopw [5] (fun iv wr => ∃ k : Nat, iv = .int .i64 k ∧ k ≤ l.length ∧ (∀ j, j < k → l.getD j 0 = m.getD j 0) ∧ Below w.heap.size w wr) (fun iv _ => l.length - (intOf iv).toNat)
    case atStart => exact ⟨0, rfl, Nat.zero_le _, fun j hj => by omega, Below.refl _ _⟩
    case round =>
      obtain ⟨k, rfl, hk, heq, hb⟩ := hrel
      have i0 : (0 : Int) ≤ (k : Int) := by omega
      by_cases hlt : k < l.length
      · have hlt2 : k < m.length := by have := HN.out; omega
        obtain ⟨b, o, c, e, hc⟩ := (HL.out.1.hold hb).cells k hlt
        obtain ⟨b', o', c', e', hc'⟩ := (HL.out.2.hold hb).cells k hlt2
        obtain ⟨rfl, rfl⟩ : a0 = some ⟨b, o, none⟩ ∧ c0 = c := by simp at e; exact e
        obtain ⟨rfl, rfl⟩ : a1 = some ⟨b', o', none⟩ ∧ c1 = c' := by simp at e'; exact e'
        have hx0 : l.getD k 0 = l[k] := getD_lt _ hlt
        have hy0 : m.getD k 0 = m[k] := getD_lt _ hlt2
        obtain ⟨x, hx⟩ : ∃ x, x = l[k] := ⟨_, rfl⟩
        obtain ⟨y, hy⟩ : ∃ y, y = m[k] := ⟨_, rfl⟩
        rw [← hx] at hc hx0
        rw [← hy] at hc' hy0
        have i3 : (k : Int) < (l.length : Int) := by omega
        have i4 : (k : Int) < (m.length : Int) := by omega
        have HE := Lib.hid (And.intro heq (And.intro hb (And.intro hx0 hy0)))
        have hltl := Lib.hid hlt
        clear heq hb hx0 hy0 hx hy e e' hlt hlt2
        go_upto_region 6 with fail
        rename World => wr
        have k0 := fun q : NwAt wr => q.nw.hold hc
        have k1 := fun q : NwAt wr => q.nw.hold hc'
        refine from_here ?_
        intro q
        refine wp_region_nw (by kernel_rfl) (by kernel_rfl) ?_
        repeat (go_big_quiet_step ((first | fail)))
        refine wpQuiet_nil ?_
        clear q
        rintro _ ⟨q, rfl⟩
        clear k0 k1
        by_cases hxy : x = y
        · have hb2 : (x != y) = false := by simpa using hxy
          have HXY := Lib.hid hxy
          clear hxy
          go_wp2
          refine ⟨⟨k + 1, by go_num, by have := hltl.out; omega, fun j hj => ?_, Below.next (Nat.le_refl _) HE.out.2.1 q.nw.b⟩, by have := hltl.out; simp [intOf]; omega⟩
          rcases Nat.lt_or_eq_of_le (Nat.le_of_lt_succ hj) with h1 | rfl
          · exact HE.out.1 j h1
          · rw [HE.out.2.2.1, HE.out.2.2.2, HXY.out]
        · have hb2 : (x != y) = true := by simpa using hxy
          have hd : decide (l = m) = false := decide_eq_false fun h => hxy (by rw [← HE.out.2.2.1, ← HE.out.2.2.2, h])
          have HD := Lib.hid hd
          clear hd hxy
          go_wp2
          go_ret
          exact ⟨by rw [HD.out]; rfl, Below.next (Nat.le_refl _) HE.out.2.1 q.nw.b⟩
      · obtain rfl : k = l.length := by omega
        have hd : decide (l = m) = true := decide_eq_true ((list_eq_iff HN.out).2 heq)
        have HD := Lib.hid hd
        have HE := Lib.hid hb
        clear hd heq hb
        go_wp2
        go_ret
        exact ⟨by rw [HD.out]; rfl, HE.out⟩
  · have hd : decide (l = m) = false := decide_eq_false fun h => hlen (by rw [h])
    rw [hd]
    have hle : ¬ ((l.length : Int) = (m.length : Int)) := by omega
    clear hd
    go_enter Try.func15, Try.ntmps15
    go_wp2
    go_ret
    exact ⟨rfl, Below.refl _ _⟩

set_option maxHeartbeats 4000000 in
theorem uReduced_u (p : Int) (hk : known p = true) (v : Value) (l : List Int) (w : World) (hl : Lst w v l) (hn : l.length ≤ 100000) :
    Calls Try.prog 24 #[.int .u64 p, v] w (Gives w (l.map (rd p))) := by
  obtain ⟨a0, c0, rfl⟩ := hl.shape
  have hpl := known_lo hk
  have hp0 : ¬ p = 0 := by omega
  have hp1 : (p == 0) = false := by simpa using hp0
  have hph := known_hi hk
  have HL := Lib.hid (And.intro hl hk)
  clear hl hk
  go_enter Try.func24, Try.ntmps24
  go_wp2
  go_loopw [5, 6] (fun ov iv wr => ∃ k : Nat, iv = .int .i64 k ∧ k ≤ l.length ∧ Own wr w.heap.size ov ((l.take k).map (rd p)) ∧ Below w.heap.size w wr) (fun _ iv _ => l.length - (intOf iv).toNat)
  case atStart => exact ⟨0, rfl, Nat.zero_le _, Own.nil _ _, Below.refl _ _⟩
  case round =>
    obtain ⟨k, rfl, hk, hown, hb⟩ := hrel
    have i0 : (0 : Int) ≤ (k : Int) := by omega
    have i2 : (l.length : Int) ≤ 100000 := by omega
    by_cases hlt : k < l.length
    · obtain ⟨b, o, c, e, hc⟩ := (HL.out.1.hold hb).cells k hlt
      obtain ⟨rfl, rfl⟩ : a0 = some ⟨b, o, none⟩ ∧ c0 = c := by simp at e; exact e
      have hux := HL.out.1.us l[k] (List.getElem_mem hlt)
      have htk : (l.take (k + 1)).map (rd p) = (l.take k).map (rd p) ++ [l[k] % p] := by
        rw [take_snoc hlt, List.map_append]
        congr 1
        show [rd p l[k]] = _
        rw [rd, if_pos HL.out.2]
      obtain ⟨x, hx⟩ : ∃ x, x = l[k] := ⟨_, rfl⟩
      rw [← hx] at hc hux htk
      have hx0 := hux.lo
      have hx1 := hux.hi
      have ht : x.tmod p = x % p := Int.tmod_eq_emod_of_nonneg hx0
      have hm0 := Int.emod_nonneg x hp0
      have hm1 := Int.emod_lt_of_pos x (show 0 < p by omega)
      have hwr : IntKind.u64.wrap (x % p) = x % p := by rw [IntKind.wrap_u64]; omega
      have hxm : U (x % p) := ⟨by omega, by omega⟩
      have i1 : (k : Int) < (l.length : Int) := by omega
      have HO := Lib.hid (And.intro hown (And.intro hb htk))
      clear hown hb htk e hx
      go_wp2_with (at_builtin; refine append_one rfl (.tmp 13) (.tmp 20) rfl w.heap.size _ _ rfl HO.out.1 _ inferInstance rfl (by simp; omega) HO.out.2.1.size ?_; intro v' w' hown' hb')
      exact ⟨⟨k + 1, by go_num, by omega, by rw [HO.out.2.2]; exact hown', HO.out.2.1.trans hb'⟩, by simp [intOf]; omega⟩
    · obtain rfl : k = l.length := by omega
      rw [List.take_length] at hown
      have HO := Lib.hid (And.intro hown hb)
      clear hown hb
      go_wp2
      go_ret
      exact ⟨_, rfl, HO.out.1, HO.out.2⟩
end Go.Proofs.Ytnmbggdfcgbniaa
