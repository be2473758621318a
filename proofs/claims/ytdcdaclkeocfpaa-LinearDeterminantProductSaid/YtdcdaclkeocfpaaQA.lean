/- The walks of package linear's columns, Valid, usable. -/
import Derived.Test.YtdcdaclkeocfpaaKO
namespace Go.Proofs.Ytdcdaclkeocfpaa
open Go.RowKit Go.BigFrame
open Classical

set_option maxHeartbeats 1000000 in
theorem mcolumns_u (v : Value) (M : List (List Int)) (w : World) (hM : MatR w v M) (_hn : M.length ≤ 100000) :
    Calls Try.prog 66 #[v] w fun e w' => e = .returned (.int .i64 (cols M)) ∧ w' = w := by
  obtain ⟨a0, c0, rfl⟩ := hM.shape
  by_cases h : M.length = 0
  · have hc : cols M = 0 := by
      have : M = [] := List.length_eq_zero_iff.1 h
      subst this; rfl
    rw [hc]
    have i1 : (M.length : Int) = 0 := by omega
    have i2 : ((M.length : Int) == 0) = true := by simpa using i1
    clear hM hc h
    go_enter Try.func66, Try.ntmps66
    go_wp2
    go_ret
    exact ⟨rfl, rfl⟩
  · have h0 : 0 < M.length := by omega
    obtain ⟨b, o, c, rv, e, hc, hl⟩ := hM.rows 0 h0
    obtain ⟨rfl, rfl⟩ : a0 = some ⟨b, o, none⟩ ∧ c0 = c := by simp at e; exact e
    obtain ⟨ra, rc, rfl⟩ := hl.shape
    rw [cols_at h0]
    have i1 : ¬ (M.length : Int) = 0 := by omega
    have i2 : ((M.length : Int) == 0) = false := by simpa using i1
    have i3 : (0 : Int) < (M.length : Int) := by omega
    rw [Nat.add_zero] at hc
    clear hM e hl h
    go_enter Try.func66, Try.ntmps66
    go_wp2
    go_ret
    exact ⟨rfl, rfl⟩

set_option maxHeartbeats 1000000 in
theorem mValid1_u (B : Nat) (a : Option Addr) (x c : Nat) (n : Int) (w : World) (hB : w.cell? ⟨B, 0, none⟩ = some (.int .i64 n)) :
    Calls Try.prog 83 #[.slice a x c, .pointer (some ⟨B, 0, none⟩)] w fun e w' => e = .returned (.bool ((x : Int) != n)) ∧ Nw w.heap.size w w' := by
  go_enter Try.func83, Try.ntmps83
  go_wp2
  go_ret
  exact ⟨rfl, Nw.refl _ _⟩

set_option maxHeartbeats 4000000 in
theorem mIndexF_u (B n : Nat) (v : Value) (M : List (List Int)) (w : World) (hM : MatR w v M) (hB : w.cell? ⟨B, 0, none⟩ = some (.int .i64 n)) (hn : M.length ≤ 100000) (hr : ∀ i (h : i < M.length), M[i].length ≤ 100000) (_hm : n ≤ 100000) :
    Calls Try.prog 110 #[v, .func (.func 83) #[] #[.pointer (some ⟨B, 0, none⟩)]] w fun e w' => ∃ k : Int, e = .returned (.int .i64 k) ∧ decide (0 ≤ k) = !decide (∀ i (h : i < M.length), M[i].length = n) ∧ Nw w.heap.size w w' := by
  obtain ⟨a0, c0, rfl⟩ := hM.shape
  have HM := Lib.hid (And.intro hM (And.intro hr hB))
  have i1 : (M.length : Int) ≤ 100000 := by omega
  clear hM hr hB
  go_enter Try.func110, Try.ntmps110
  go_wp2
  go_loopw [8] (fun iv wr => ∃ k : Nat, iv = .int .i64 k ∧ k ≤ M.length ∧ (∀ i (h : i < M.length), i < k → M[i].length = n) ∧ Nw w.heap.size w wr) (fun iv _ => M.length - (intOf iv).toNat)
  case atStart => exact ⟨0, rfl, Nat.zero_le _, fun i _ h => absurd h (Nat.not_lt_zero _), Nw.refl _ _⟩
  case round =>
    obtain ⟨k, rfl, hk, hall, hb⟩ := hrel
    have i0 : (0 : Int) ≤ (k : Int) := by omega
    by_cases hlt : k < M.length
    · obtain ⟨b, o, c, rv, e, hc, hl⟩ := (HM.out.1.hold hb.b).rows k hlt
      obtain ⟨rfl, rfl⟩ : a0 = some ⟨b, o, none⟩ ∧ c0 = c := by simp at e; exact e
      obtain ⟨ra, rc, rfl⟩ := hl.shape
      have hrk := HM.out.2.1 k hlt
      have hBk := hb.hold HM.out.2.2
      obtain ⟨x, hx⟩ : ∃ x, x = M[k].length := ⟨_, rfl⟩
      rw [← hx] at hc hrk
      have i3 : (k : Int) < (M.length : Int) := by omega
      by_cases hxn : x = n
      · have i4 : ((x : Int) != (n : Int)) = false := by simp [hxn]
        have HA := Lib.hid (And.intro hall (And.intro hb (And.intro hx hxn)))
        clear hall hb hx hxn e hl
        go_wp2_with (go_at_call 83; refine (mValid1_u B _ x _ n _ hBk).mono ?_; rintro _ w1 ⟨rfl, hb1⟩; rw [i4])
        refine ⟨⟨k + 1, by go_num, by omega, fun i hi hik => ?_, Nw.next (Nat.le_refl _) HA.out.2.1 hb1⟩, by simp [intOf]; omega⟩
        rcases Nat.lt_succ_iff_lt_or_eq.1 hik with e | e
        · exact HA.out.1 i hi e
        · subst e; rw [← HA.out.2.2.1]; exact HA.out.2.2.2
      · have i4 : ((x : Int) != (n : Int)) = true := by simp; omega
        have hd : decide (∀ i (h : i < M.length), M[i].length = n) = false := decide_eq_false fun h => hxn (by rw [hx]; exact h k hlt)
        have HA := Lib.hid (And.intro hb hd)
        clear hall hb hx hxn e hl hd
        go_wp2_with (go_at_call 83; refine (mValid1_u B _ x _ n _ hBk).mono ?_; rintro _ w1 ⟨rfl, hb1⟩; rw [i4])
        go_ret
        exact ⟨_, rfl, by rw [HA.out.2]; simp, Nw.next (Nat.le_refl _) HA.out.1 hb1⟩
    · obtain rfl : k = M.length := by omega
      have hd : decide (∀ i (h : i < M.length), M[i].length = n) = true := decide_eq_true fun i h => hall i h h
      have HA := Lib.hid (And.intro hb hd)
      clear hall hb hd
      go_wp2
      go_ret
      exact ⟨_, rfl, by rw [HA.out.2]; decide, HA.out.1⟩

set_option maxHeartbeats 1000000 in
theorem mContainsF_u (B n : Nat) (v : Value) (M : List (List Int)) (w : World) (hM : MatR w v M) (hB : w.cell? ⟨B, 0, none⟩ = some (.int .i64 n)) (hn : M.length ≤ 100000) (hr : ∀ i (h : i < M.length), M[i].length ≤ 100000) (hm : n ≤ 100000) :
    Calls Try.prog 82 #[v, .func (.func 83) #[] #[.pointer (some ⟨B, 0, none⟩)]] w fun e w' => e = .returned (.bool (!decide (∀ i (h : i < M.length), M[i].length = n))) ∧ Nw w.heap.size w w' := by
  have HM := Lib.hid (And.intro hM (And.intro hr hB))
  clear hM hr hB
  go_enter Try.func82, Try.ntmps82
  go_wp2_with (go_at_call 110; refine (mIndexF_u B n v M _ HM.out.1 HM.out.2.2 hn HM.out.2.1 hm).mono ?_; rintro _ w1 ⟨k, rfl, hk, hb1⟩)
  go_ret
  exact ⟨by rw [← hk]; rfl, hb1⟩

set_option maxHeartbeats 2000000 in
theorem mValid_u (v : Value) (M : List (List Int)) (w : World) (hM : MatR w v M) (hn : M.length ≤ 100000) (hr : ∀ i (h : i < M.length), M[i].length ≤ 100000) :
    Calls Try.prog 44 #[v] w fun e w' => e = .returned (.bool (decide (Vld M))) ∧ Nw w.heap.size w w' := by
  have hmf : ∀ (fn : Fn) (first cap : Array Value) (w : World), (Instr.makeFunc fn first cap).run Try.prog w = .ok (.func fn first cap) w := fun _ _ _ _ => rfl
  obtain ⟨a0, c0, rfl⟩ := hM.shape
  have hcb : cols M ≤ 100000 := by
    by_cases h0 : 0 < M.length
    · rw [cols_at h0]; exact hr 0 h0
    · have : M = [] := List.length_eq_zero_iff.1 (by omega)
      subst this; simp [cols]
  have hd : decide (Vld M) = (decide (M.length ≤ 64 ∧ cols M ≤ 64) && decide (∀ i (h : i < M.length), M[i].length = cols M)) := by
    rw [← Bool.decide_and]
    exact decide_eq_decide.2 ⟨fun h => ⟨⟨h.2, h.cols⟩, fun i hi => (h.1 i hi).1⟩, fun h => ⟨fun i hi => ⟨h.2 i hi, by rw [h.2 i hi]; exact h.1.2⟩, h.1.1⟩⟩
  have HM := Lib.hid (And.intro hM (And.intro hr hd))
  have i1 : (M.length : Int) ≤ 100000 := by omega
  clear hM hr hd
  by_cases h1 : M.length ≤ 64
  · have j1 : decide ((64 : Int) < (M.length : Int)) = false := by simp; omega
    by_cases h2 : cols M ≤ 64
    · have j2 : decide ((64 : Int) < (cols M : Int)) = false := by simp; omega
      have HD := Lib.hid (decide_eq_true (show M.length ≤ 64 ∧ cols M ≤ 64 from ⟨h1, h2⟩))
      go_enter Try.func44, Try.ntmps44
      go_wp2_with (first
        | (go_at_call 66; refine (mcolumns_u _ M _ (HM.out.1) hn).mono ?_; rintro e w1 ⟨rfl, rfl⟩)
        | (go_at_call 82; refine (mContainsF_u _ (cols M) _ M _ (HM.out.1.hold (Below.made (Nat.le_refl _) (Below.refl _ _) _)) (by go_simp) hn HM.out.2.1 hcb).mono ?_; rintro _ w2 ⟨rfl, hb2⟩))
      go_ret
      exact ⟨by rw [HM.out.2.2, HD.out]; simp, Nw.next (Nat.le_refl _) (Nw.made (Nat.le_refl _) (Nw.refl _ _) _ _) hb2⟩
    · have j2 : decide ((64 : Int) < (cols M : Int)) = true := by simp; omega
      have HD := Lib.hid (decide_eq_false (show ¬ (M.length ≤ 64 ∧ cols M ≤ 64) from fun h => h2 h.2))
      go_enter Try.func44, Try.ntmps44
      go_wp2_with (first
        | (go_at_call 66; refine (mcolumns_u _ M _ (HM.out.1) hn).mono ?_; rintro e w1 ⟨rfl, rfl⟩))
      go_ret
      exact ⟨by rw [HM.out.2.2, HD.out]; rfl, Nw.made (Nat.le_refl _) (Nw.refl _ _) _ _⟩
  · have j1 : decide ((64 : Int) < (M.length : Int)) = true := by simp; omega
    have HD := Lib.hid (decide_eq_false (show ¬ (M.length ≤ 64 ∧ cols M ≤ 64) from fun h => h1 h.1))
    go_enter Try.func44, Try.ntmps44
    go_wp2_with (first
      | (go_at_call 66; refine (mcolumns_u _ M _ (HM.out.1) hn).mono ?_; rintro e w1 ⟨rfl, rfl⟩))
    go_ret
    exact ⟨by rw [HM.out.2.2, HD.out]; rfl, Nw.made (Nat.le_refl _) (Nw.refl _ _) _ _⟩

set_option maxHeartbeats 1000000 in
theorem musable_u (p : Int) (v : Value) (M : List (List Int)) (w : World) (hM : MatR w v M) (hn : M.length ≤ 100000) (hr : ∀ i (h : i < M.length), M[i].length ≤ 100000) :
    Calls Try.prog 61 #[.agg #[.int .u64 p], v] w fun e w' => e = .returned (.bool (decide (OkM p M))) ∧ Nw w.heap.size w w' := by
  obtain ⟨a0, c0, rfl⟩ := hM.shape
  have HM := Lib.hid (And.intro hM (And.intro hr (okM_dec p M)))
  clear hM hr
  by_cases hk : known p = true
  · have HK := Lib.hid hk
    clear hk
    go_enter Try.func61, Try.ntmps61
    go_wp2_with (first
      | (go_at_call 75; refine (valid_any _ _).mono ?_; rintro e w1 ⟨rfl, hb1⟩; rw [HK.out])
      | (go_at_call 44; refine (mValid_u _ M _ (HM.out.1.hold (Below.next (Nat.le_refl _) (Below.made (Nat.le_refl _) (Below.refl _ _) _) hb1.b)) hn HM.out.2.1).mono ?_; rintro e w2 ⟨rfl, hb2⟩))
    go_ret
    exact ⟨by rw [← HM.out.2.2, HK.out]; rfl, Nw.next (Nat.le_refl _) (Nw.next (Nat.le_refl _) (Nw.made (Nat.le_refl _) (Nw.refl _ _) _ _) hb1) hb2⟩
  · have hk : known p = false := by simpa using hk
    have HK := Lib.hid hk
    clear hk
    go_enter Try.func61, Try.ntmps61
    go_wp2_with (go_at_call 75; refine (valid_any _ _).mono ?_; rintro e w1 ⟨rfl, hb1⟩; rw [HK.out])
    go_ret
    exact ⟨by rw [← HM.out.2.2, HK.out]; rfl, Nw.next (Nat.le_refl _) (Nw.made (Nat.le_refl _) (Nw.refl _ _) _ _) hb1⟩
end Go.Proofs.Ytdcdaclkeocfpaa
