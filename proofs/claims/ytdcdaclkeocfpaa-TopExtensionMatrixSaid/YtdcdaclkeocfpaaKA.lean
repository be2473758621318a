/- The walks of the reference's Columns, Valid, ok (05). -/
import Derived.Test.YtdcdaclkeocfpaaMatA
import Derived.Test.YtdcdaclkeocfpaaBwAt
namespace Go.Proofs.Ytdcdaclkeocfpaa
open Go.RowKit Go.BigFrame
open Classical

def cols (M : List (List Int)) : Nat := (M.getD 0 []).length
/-- All rows have the same length, and there are at most 64 rows and columns. -/
def Vld (M : List (List Int)) : Prop := (∀ i (h : i < M.length), M[i].length = cols M ∧ M[i].length ≤ 64) ∧ M.length ≤ 64
theorem cols_at {M : List (List Int)} (h : 0 < M.length) : cols M = M[0].length := by simp [cols, List.getD, h]
theorem Vld.cols {M : List (List Int)} (h : Vld M) : cols M ≤ 64 := by
  by_cases h0 : 0 < M.length
  · rw [cols_at h0]; exact (h.1 0 h0).2
  · have : M = [] := List.length_eq_zero_iff.1 (by omega)
    subst this; simp [Proofs.Ytdcdaclkeocfpaa.cols]

set_option maxHeartbeats 1000000 in
theorem kColumns_u (v : Value) (M : List (List Int)) (w : World) (hM : MatR w v M) (_hn : M.length ≤ 100000) :
    Calls Try.prog 41 #[v] w fun e w' => e = .returned (.int .i64 (cols M)) ∧ w' = w := by
  obtain ⟨a0, c0, rfl⟩ := hM.shape
  by_cases h : M.length = 0
  · have hc : cols M = 0 := by
      have : M = [] := List.length_eq_zero_iff.1 h
      subst this; rfl
    rw [hc]
    have i1 : (M.length : Int) = 0 := by omega
    have i2 : ((M.length : Int) == 0) = true := by simpa using i1
    clear hM hc h
    go_enter Try.func41, Try.ntmps41
    go_wp2
    go_ret
    exact ⟨rfl, rfl⟩
  · have h0 : 0 < M.length := by omega
    obtain ⟨b, o, c, rv, e, hc, hl⟩ := hM.rows 0 h0
    obtain ⟨rfl, rfl⟩ : a0 = some ⟨b, o, none⟩ ∧ c0 = c := by simp at e; exact e
    obtain ⟨ra, rc, rfl⟩ := hl.shape
    rw [cols_at h0]
    have i1 : ¬ (M.length : Int) = 0 := by omega
    have i2 : ((M.length : Int) == 0) = false := by simpa using i1
    have i3 : (0 : Int) < (M.length : Int) := by omega
    rw [Nat.add_zero] at hc
    clear hM e hl h
    go_enter Try.func41, Try.ntmps41
    go_wp2
    go_ret
    exact ⟨rfl, rfl⟩

set_option maxHeartbeats 2000000 in
theorem kValid_u (v : Value) (M : List (List Int)) (w : World) (hM : MatR w v M) (hn : M.length ≤ 100000) (hr : ∀ i (h : i < M.length), M[i].length ≤ 100000) :
    Calls Try.prog 40 #[v] w fun e w' => e = .returned (.bool (decide (Vld M))) ∧ Nw w.heap.size w w' := by
  obtain ⟨a0, c0, rfl⟩ := hM.shape
  have HM := Lib.hid hM
  have HR := Lib.hid hr
  clear hM hr
  go_enter Try.func40, Try.ntmps40
  go_wp2
  go_loopw [3] (fun iv wr => ∃ k : Nat, iv = .int .i64 k ∧ k ≤ M.length ∧ (∀ i (h : i < M.length), i < k → M[i].length = cols M ∧ M[i].length ≤ 64) ∧ Nw w.heap.size w wr) (fun iv _ => M.length - (intOf iv).toNat)
  case atStart => exact ⟨0, rfl, Nat.zero_le _, fun i _ h => absurd h (Nat.not_lt_zero _), Nw.refl _ _⟩
  case round =>
    obtain ⟨k, rfl, hk, hall, hb⟩ := hrel
    have i0 : (0 : Int) ≤ (k : Int) := by omega
    by_cases hlt : k < M.length
    · have h0 : 0 < M.length := by omega
      have HW := (HM.out).hold hb.b
      obtain ⟨b, o, c, rv, e, hc, hl⟩ := HW.rows k hlt
      obtain ⟨rfl, rfl⟩ : a0 = some ⟨b, o, none⟩ ∧ c0 = c := by simp at e; exact e
      obtain ⟨ra, rc, rfl⟩ := hl.shape
      obtain ⟨b', o', c', rv', e', hc', hl'⟩ := HW.rows 0 h0
      obtain ⟨⟨rfl, rfl⟩, rfl⟩ : (b = b' ∧ o = o') ∧ c0 = c' := by simp at e'; exact e'
      obtain ⟨ra', rc', rfl⟩ := hl'.shape
      rw [Nat.add_zero] at hc'
      have hcol := cols_at h0
      have hrk := HR.out k hlt
      have hr0 := HR.out 0 h0
      obtain ⟨x, hx⟩ : ∃ x, x = M[k].length := ⟨_, rfl⟩
      obtain ⟨y, hy⟩ : ∃ y, y = M[0].length := ⟨_, rfl⟩
      rw [← hx] at hc hrk
      rw [← hy] at hc' hcol hr0
      have i1 : (k : Int) < (M.length : Int) := by omega
      have i2 : (0 : Int) < (M.length : Int) := by omega
      by_cases hxy : x = y
      · have i3 : ((x : Int) != (y : Int)) = false := by simp [hxy]
        by_cases h64 : x ≤ 64
        · have i4 : ((x : Int) > 64) = False := by simp; omega
          have i5 : decide (64 < (x : Int)) = false := by simp; omega
          have HA := Lib.hid (And.intro hall (And.intro hb (And.intro hx hcol)))
          have HX := Lib.hid hxy
          clear hall hb hx hy hcol e e' hl hl' HW hxy
          go_wp2_with fail
          go_quiet (fail)
          go_wp2
          refine ⟨⟨k + 1, by go_num, by omega, fun i hi hik => ?_, HA.out.2.1.drewN nq⟩, by simp [intOf]; omega⟩
          rcases Nat.lt_succ_iff_lt_or_eq.1 hik with e | e
          · exact HA.out.1 i hi e
          · subst e
            rw [← HA.out.2.2.1, HA.out.2.2.2, HX.out]
            exact ⟨rfl, by have := HX.out; omega⟩
        · have i5 : decide (64 < (x : Int)) = true := by simp; omega
          have i4 : 64 < (x : Int) := by omega
          have hv : ¬ Vld M := fun h => h64 (by have := (h.1 k hlt).2; omega)
          have hd : decide (Vld M) = false := decide_eq_false hv
          have HD := Lib.hid hd
          have HA := Lib.hid hb
          clear hall hb hx hy hcol e e' hl hl' HW hxy hv hd
          go_wp2_with fail
          go_quiet (fail)
          go_wp2
          go_ret
          exact ⟨by rw [HD.out]; rfl, HA.out.drewN _⟩
      · have i3 : ((x : Int) != (y : Int)) = true := by simp; omega
        have i4 : ¬ (x : Int) = (y : Int) := by omega
        have hv : ¬ Vld M := fun h => hxy (by have := (h.1 k hlt).1; omega)
        have hd : decide (Vld M) = false := decide_eq_false hv
        have HD := Lib.hid hd
        have HA := Lib.hid hb
        clear hall hb hx hy hcol e e' hl hl' HW hxy hv hd
        go_wp2_with fail
        go_quiet (fail)
        go_wp2
        go_ret
        exact ⟨by rw [HD.out]; rfl, HA.out.drewN _⟩
    · obtain rfl : k = M.length := by omega
      have hd : decide (Vld M) = decide (M.length ≤ 64) := by
        by_cases h : M.length ≤ 64
        · rw [decide_eq_true h]
          exact decide_eq_true ⟨fun i hi => hall i hi hi, h⟩
        · rw [decide_eq_false h]
          exact decide_eq_false fun h2 => h h2.2
      have HA := Lib.hid hb
      have i1 : (M.length : Int) ≤ 100000 := by omega
      clear hall hb
      go_wp2
      go_ret
      have e : decide ((M.length : Int) ≤ 64) = decide (M.length ≤ 64) := decide_eq_decide.2 ⟨fun h => by omega, fun h => by omega⟩
      exact ⟨by rw [hd, ← e]; rfl, HA.out⟩

set_option maxHeartbeats 1000000 in
theorem kok_u (p : Int) (v : Value) (M : List (List Int)) (w : World) (hM : MatR w v M) (hn : M.length ≤ 100000) (hr : ∀ i (h : i < M.length), M[i].length ≤ 100000) :
    Calls Try.prog 64 #[.int .u64 p, v] w fun e w' => e = .returned (.bool (known p && decide (Vld M))) ∧ Nw w.heap.size w w' := by
  have HM := Lib.hid (And.intro hM hr)
  clear hM hr
  by_cases hk : known p = true
  · have HK := Lib.hid hk
    clear hk
    go_enter Try.func64, Try.ntmps64
    go_wp2_with (first
      | (go_at_call 79; refine (rValid_any _ _).mono ?_; rintro e w1 ⟨rfl, hb1⟩; rw [HK.out])
      | (go_at_call 40; refine (kValid_u _ M _ (HM.out.1.hold hb1.b) hn HM.out.2).mono ?_; rintro e w2 ⟨rfl, hb2⟩))
    go_ret
    exact ⟨by rw [HK.out]; rfl, by (repeat (first | exact Nw.refl _ _ | assumption | refine Nw.drew ?_ | refine Nw.drewN ?_ _ | refine Nw.set ?_ (by first | omega | (simp; done) | (simp; omega)) _ | refine Nw.made (Nat.le_refl _) ?_ _ _ | refine Nw.next (Nat.le_refl _) ?_ (by assumption)))⟩
  · have hk : known p = false := by simpa using hk
    have HK := Lib.hid hk
    clear hk
    go_enter Try.func64, Try.ntmps64
    go_wp2_with (go_at_call 79; refine (rValid_any _ _).mono ?_; rintro e w1 ⟨rfl, hb1⟩; rw [HK.out])
    go_ret
    exact ⟨by rw [HK.out]; rfl, by (repeat (first | exact Nw.refl _ _ | assumption | refine Nw.drew ?_ | refine Nw.drewN ?_ _ | refine Nw.set ?_ (by first | omega | (simp; done) | (simp; omega)) _ | refine Nw.made (Nat.le_refl _) ?_ _ _ | refine Nw.next (Nat.le_refl _) ?_ (by assumption)))⟩
end Go.Proofs.Ytdcdaclkeocfpaa
