/- The walks of the reference's Same, Small, Square, Identity (01, 05), and of the law's copy. -/
import Derived.Test.YtdcdaclkeocfpaaKA
namespace Go.Proofs.Ytdcdaclkeocfpaa
open Go.RowKit Go.BigFrame
open Classical

theorem list_eq_b {l m : List Int} (h : l.length = m.length) : l = m ↔ ∀ i, i < l.length → l.getD i 0 = m.getD i 0 := by
  constructor
  · rintro rfl i _; rfl
  · intro hh
    refine List.ext_getElem h fun i h1 h2 => ?_
    have := hh i h1
    rwa [getD_lt _ h1, getD_lt _ h2] at this

set_option maxHeartbeats 4000000 in
theorem rSame_b (va vb : Value) (l m : List Int) (w : World) (hla : Lst w va l) (hlb : Lst w vb m) (hnl : l.length ≤ 100000) (hnm : m.length ≤ 100000) :
    Calls Try.prog 25 #[va, vb] w fun e w' => e = .returned (.bool (decide (l = m))) ∧ Below w.heap.size w w' := by
  obtain ⟨a0, c0, rfl⟩ := hla.shape
  obtain ⟨a1, c1, rfl⟩ := hlb.shape
  have HL := Lib.hid (And.intro hla hlb)
  clear hla hlb
  have i1 : (l.length : Int) ≤ 100000 := by omega
  have i2 : (m.length : Int) ≤ 100000 := by omega
  by_cases hlen : l.length = m.length
  · have HN := Lib.hid hlen
    have hle : (m.length : Int) = (l.length : Int) := by omega
    have hlen2 := hlen.symm
    clear hlen
    go_enter Try.func25, Try.ntmps25
    go_wp2
    clear hle hlen2
    go_loopw [5] (fun iv wr => ∃ k : Nat, iv = .int .i64 k ∧ k ≤ l.length ∧ (∀ j, j < k → l.getD j 0 = m.getD j 0) ∧ Below w.heap.size w wr) (fun iv _ => l.length - (intOf iv).toNat)
    case atStart => exact ⟨0, rfl, Nat.zero_le _, fun j hj => by omega, Below.refl _ _⟩
    case round =>
      obtain ⟨k, rfl, hk, heq, hb⟩ := hrel
      have i0 : (0 : Int) ≤ (k : Int) := by omega
      by_cases hlt : k < l.length
      · have hlt2 : k < m.length := by have := HN.out; omega
        obtain ⟨b, o, c, e, hc⟩ := (HL.out.1.hold hb).cells k hlt
        obtain ⟨b', o', c', e', hc'⟩ := (HL.out.2.hold hb).cells k hlt2
        obtain ⟨rfl, rfl⟩ : a0 = some ⟨b, o, none⟩ ∧ c0 = c := by simp at e; exact e
        obtain ⟨rfl, rfl⟩ : a1 = some ⟨b', o', none⟩ ∧ c1 = c' := by simp at e'; exact e'
        have hx0 : l.getD k 0 = l[k] := getD_lt _ hlt
        have hy0 : m.getD k 0 = m[k] := getD_lt _ hlt2
        obtain ⟨x, hx⟩ : ∃ x, x = l[k] := ⟨_, rfl⟩
        obtain ⟨y, hy⟩ : ∃ y, y = m[k] := ⟨_, rfl⟩
        rw [← hx] at hc hx0
        rw [← hy] at hc' hy0
        have i3 : (k : Int) < (l.length : Int) := by omega
        have i4 : (k : Int) < (m.length : Int) := by omega
        have HE := Lib.hid (And.intro heq (And.intro hb (And.intro hx0 hy0)))
        have hltl := Lib.hid hlt
        clear heq hb hx0 hy0 hx hy e e' hlt hlt2
        go_upto_region 6 with fail
        rename World => wr
        have k0 := fun q : NwAt wr => q.nw.hold hc
        have k1 := fun q : NwAt wr => q.nw.hold hc'
        refine from_here ?_
        intro q
        refine wp_region_nw (by kernel_rfl) (by kernel_rfl) ?_
        repeat (go_big_quiet_step ((first | fail)))
        refine wpQuiet_nil ?_
        clear q
        rintro _ ⟨q, rfl⟩
        clear k0 k1
        by_cases hxy : x = y
        · have hb2 : (x != y) = false := by simpa using hxy
          have HXY := Lib.hid hxy
          clear hxy
          go_wp2
          refine ⟨⟨k + 1, by go_num, by have := hltl.out; omega, fun j hj => ?_, Below.next (Nat.le_refl _) HE.out.2.1 q.nw.b⟩, by have := hltl.out; simp [intOf]; omega⟩
          rcases Nat.lt_or_eq_of_le (Nat.le_of_lt_succ hj) with h1 | rfl
          · exact HE.out.1 j h1
          · rw [HE.out.2.2.1, HE.out.2.2.2, HXY.out]
        · have hb2 : (x != y) = true := by simpa using hxy
          have hd : decide (l = m) = false := decide_eq_false fun h => hxy (by rw [← HE.out.2.2.1, ← HE.out.2.2.2, h])
          have HD := Lib.hid hd
          clear hd hxy
          go_wp2
          go_ret
          exact ⟨by rw [HD.out]; rfl, Below.next (Nat.le_refl _) HE.out.2.1 q.nw.b⟩
      · obtain rfl : k = l.length := by omega
        have hd : decide (l = m) = true := decide_eq_true ((list_eq_b HN.out).2 heq)
        have HD := Lib.hid hd
        have HE := Lib.hid hb
        clear hd heq hb
        go_wp2
        go_ret
        exact ⟨by rw [HD.out]; rfl, HE.out⟩
  · have hd : decide (l = m) = false := decide_eq_false fun h => hlen (by rw [h])
    rw [hd]
    have hle : ¬ ((l.length : Int) = (m.length : Int)) := by omega
    clear hd
    go_enter Try.func25, Try.ntmps25
    go_wp2
    go_ret
    exact ⟨rfl, Below.refl _ _⟩

set_option maxHeartbeats 2000000 in
theorem kSame_b (va vb : Value) (A B : List (List Int)) (w : World) (hA : MatR w va A) (hB : MatR w vb B) (hn : A.length ≤ 100000) (hm : B.length ≤ 100000) (hra : ∀ i (h : i < A.length), A[i].length ≤ 100000) (hrb : ∀ i (h : i < B.length), B[i].length ≤ 100000) :
    Calls Try.prog 21 #[va, vb] w fun e w' => e = .returned (.bool (decide (A = B))) ∧ Below w.heap.size w w' := by
  obtain ⟨a0, c0, rfl⟩ := hA.shape
  obtain ⟨a1, c1, rfl⟩ := hB.shape
  have HL := Lib.hid (And.intro hA (And.intro hB (And.intro hra hrb)))
  clear hA hB hra hrb
  have i1 : (A.length : Int) ≤ 100000 := by omega
  have i2 : (B.length : Int) ≤ 100000 := by omega
  by_cases hlen : A.length = B.length
  · have HN := Lib.hid hlen
    have hle : (B.length : Int) = (A.length : Int) := by omega
    have hlen2 := hlen.symm
    clear hlen
    go_enter Try.func21, Try.ntmps21
    go_wp2
    clear hle hlen2
    go_loopw [5] (fun iv wr => ∃ k : Nat, iv = .int .i64 k ∧ k ≤ A.length ∧ (∀ j, j < k → A.getD j [] = B.getD j []) ∧ Below w.heap.size w wr) (fun iv _ => A.length - (intOf iv).toNat)
    case atStart => exact ⟨0, rfl, Nat.zero_le _, fun j hj => by omega, Below.refl _ _⟩
    case round =>
      obtain ⟨k, rfl, hk, heq, hb⟩ := hrel
      have i0 : (0 : Int) ≤ (k : Int) := by omega
      by_cases hlt : k < A.length
      · have hlt2 : k < B.length := by have := HN.out; omega
        obtain ⟨b, o, c, rv, e, hc, hl⟩ := (HL.out.1.hold hb).rows k hlt
        obtain ⟨b', o', c', rv', e', hc', hl'⟩ := (HL.out.2.1.hold hb).rows k hlt2
        obtain ⟨rfl, rfl⟩ : a0 = some ⟨b, o, none⟩ ∧ c0 = c := by simp at e; exact e
        obtain ⟨rfl, rfl⟩ : a1 = some ⟨b', o', none⟩ ∧ c1 = c' := by simp at e'; exact e'
        have hx1 := HL.out.2.2.1 k hlt
        have hy1 := HL.out.2.2.2 k hlt2
        have hx0 : A.getD k [] = A[k] := by simp [List.getD, hlt]
        have hy0 : B.getD k [] = B[k] := by simp [List.getD, hlt2]
        obtain ⟨x, hx⟩ : ∃ x, x = A[k] := ⟨_, rfl⟩
        obtain ⟨y, hy⟩ : ∃ y, y = B[k] := ⟨_, rfl⟩
        rw [← hx] at hl hx1 hx0
        rw [← hy] at hl' hy1 hy0
        have i3 : (k : Int) < (A.length : Int) := by omega
        have i4 : (k : Int) < (B.length : Int) := by omega
        have HE := Lib.hid (And.intro heq (And.intro hb (And.intro hx0 (And.intro hy0 (And.intro hl hl')))))
        have hltl := Lib.hid hlt
        clear heq hb hx0 hy0 hx hy e e' hlt hlt2 hl hl'
        go_upto_region 6 with fail
        rename World => wr
        have hcell := fun (w' : World) (h : Below wr.heap.size wr w') => Below.hold h hc
        have hcell' := fun (w' : World) (h : Below wr.heap.size wr w') => Below.hold h hc'
        have F := Below.refl wr.heap.size wr
        clear hc hc'
        by_cases hxy : x = y
        · have hd : decide (x = y) = true := decide_eq_true hxy
          have HXY := Lib.hid (And.intro hxy hd)
          clear hxy hd
          go_region_held3 (fun w' => Below wr.heap.size wr w')
            (repeat (first | assumption | refine Below.drew ?_ | refine Below.next (Nat.le_refl _) ?_ (by assumption)))
            (first | (go_at_call 25; refine (rSame_b _ _ x y _ (HE.out.2.2.2.2.1.hold (by assumption)) (HE.out.2.2.2.2.2.hold (by assumption)) hx1 hy1).mono ?_; rintro _ w2 ⟨rfl, hb2⟩; rw [HXY.out.2]))
          all_goals
            go_wp2
            refine ⟨⟨k + 1, by go_num, by have := hltl.out; omega, fun j hjk => ?_, Below.next (Nat.le_refl _) HE.out.2.1 (by assumption)⟩, by have := hltl.out; simp [intOf]; omega⟩
            rcases Nat.lt_or_eq_of_le (Nat.le_of_lt_succ hjk) with h1 | rfl
            · exact HE.out.1 j h1
            · rw [HE.out.2.2.1, HE.out.2.2.2.1, HXY.out.1]
        · have hd : decide (x = y) = false := decide_eq_false hxy
          have hd2 : decide (A = B) = false := decide_eq_false fun h => hxy (by rw [← HE.out.2.2.1, ← HE.out.2.2.2.1, h])
          have HXY := Lib.hid hd
          have HD := Lib.hid hd2
          clear hxy hd hd2
          go_region_held3 (fun w' => Below wr.heap.size wr w')
            (repeat (first | assumption | refine Below.drew ?_ | refine Below.next (Nat.le_refl _) ?_ (by assumption)))
            (first | (go_at_call 25; refine (rSame_b _ _ x y _ (HE.out.2.2.2.2.1.hold (by assumption)) (HE.out.2.2.2.2.2.hold (by assumption)) hx1 hy1).mono ?_; rintro _ w2 ⟨rfl, hb2⟩; rw [HXY.out]))
          all_goals
            go_wp2
            go_ret
            exact ⟨by rw [HD.out]; rfl, Below.next (Nat.le_refl _) HE.out.2.1 (by assumption)⟩
      · obtain rfl : k = A.length := by omega
        have hd : decide (A = B) = true := decide_eq_true (List.ext_getElem HN.out fun j h1 h2 => by have := heq j h1; simpa [List.getD, h1, h2] using this)
        have HD := Lib.hid (And.intro hd hb)
        clear hd hb heq
        go_wp2
        go_ret
        exact ⟨by rw [HD.out.1]; rfl, HD.out.2⟩
  · have hd : decide (A = B) = false := decide_eq_false fun h => hlen (by rw [h])
    have hne : ((A.length : Int) != (B.length : Int)) = true := by simp; omega
    have HD := Lib.hid hd
    clear hd
    go_enter Try.func21, Try.ntmps21
    go_wp2
    go_ret
    exact ⟨by rw [HD.out]; rfl, Below.refl _ _⟩
end Go.Proofs.Ytdcdaclkeocfpaa
