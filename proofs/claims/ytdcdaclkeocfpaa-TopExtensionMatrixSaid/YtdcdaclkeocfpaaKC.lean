/- The walks of the reference's Small, Square, Identity (05) and of the law's copy. -/
import Derived.Test.YtdcdaclkeocfpaaKB
namespace Go.Proofs.Ytdcdaclkeocfpaa
open Go.RowKit Go.BigFrame
open Classical

/-- At most k rows, each of at most k elements. -/
def Sml (M : List (List Int)) (k : Nat) : Prop := (∀ i (h : i < M.length), M[i].length ≤ k) ∧ M.length ≤ k

set_option maxHeartbeats 2000000 in
theorem kSmall_u (v : Value) (M : List (List Int)) (k : Nat) (w : World) (hM : MatR w v M) (hn : M.length ≤ 9223372036854775807) (hr : ∀ i (h : i < M.length), M[i].length ≤ 9223372036854775807) (hk : k ≤ 100000) :
    Calls Try.prog 29 #[v, .int .i64 k] w fun e w' => e = .returned (.bool (decide (Sml M k))) ∧ w' = w := by
  obtain ⟨a0, c0, rfl⟩ := hM.shape
  have HM := Lib.hid (And.intro hM hr)
  have i1 : (M.length : Int) ≤ 9223372036854775807 := by omega
  have i2 : (k : Int) ≤ 100000 := by omega
  clear hM hr
  go_enter Try.func29, Try.ntmps29
  go_wp2
  go_loopw [5] (fun iv wr => ∃ j : Nat, iv = .int .i64 j ∧ j ≤ M.length ∧ (∀ i (h : i < M.length), i < j → M[i].length ≤ k) ∧ wr = w) (fun iv _ => M.length - (intOf iv).toNat)
  case atStart => exact ⟨0, rfl, Nat.zero_le _, fun i _ h => absurd h (Nat.not_lt_zero _), rfl⟩
  case round =>
    obtain ⟨j, rfl, hj, hall, rfl⟩ := hrel
    have i0 : (0 : Int) ≤ (j : Int) := by omega
    by_cases hlt : j < M.length
    · obtain ⟨b, o, c, rv, e, hc, hl⟩ := HM.out.1.rows j hlt
      obtain ⟨rfl, rfl⟩ : a0 = some ⟨b, o, none⟩ ∧ c0 = c := by simp at e; exact e
      obtain ⟨ra, rc, rfl⟩ := hl.shape
      have hrj := HM.out.2 j hlt
      obtain ⟨x, hx⟩ : ∃ x, x = M[j].length := ⟨_, rfl⟩
      rw [← hx] at hc hrj
      have i3 : (j : Int) < (M.length : Int) := by omega
      by_cases hxk : x ≤ k
      · have i4 : ¬ (k : Int) < (x : Int) := by omega
        have i5 : decide ((k : Int) < (x : Int)) = false := by simp; omega
        have HA := Lib.hid (And.intro hall hx)
        clear hall hx e hl
        go_wp2
        refine ⟨⟨j + 1, by go_num, by omega, fun i hi hij => ?_, by first | rfl | trivial⟩, by simp [intOf]; omega⟩
        rcases Nat.lt_succ_iff_lt_or_eq.1 hij with e | e
        · exact HA.out.1 i hi e
        · subst e; rw [← HA.out.2]; exact hxk
      · have i4 : (k : Int) < (x : Int) := by omega
        have i5 : decide ((k : Int) < (x : Int)) = true := by simp; omega
        have hd : decide (Sml M k) = false := decide_eq_false fun h => hxk (by rw [hx]; exact h.1 j hlt)
        have HD := Lib.hid hd
        clear hall hx e hl hd
        go_wp2
        go_ret
        exact ⟨by rw [HD.out]; rfl, rfl⟩
    · obtain rfl : j = M.length := by omega
      have hd : decide (Sml M k) = decide (M.length ≤ k) := by
        by_cases h : M.length ≤ k
        · rw [decide_eq_true h]
          exact decide_eq_true ⟨fun i hi => hall i hi hi, h⟩
        · rw [decide_eq_false h]
          exact decide_eq_false fun h2 => h h2.2
      have HD := Lib.hid hd
      clear hall hd
      go_wp2
      go_ret
      exact ⟨by rw [HD.out]; rfl, rfl⟩

set_option maxHeartbeats 1000000 in
theorem small5_u (v : Value) (M : List (List Int)) (w : World) (hM : MatR w v M) (hn : M.length ≤ 9223372036854775807) (hr : ∀ i (h : i < M.length), M[i].length ≤ 9223372036854775807) :
    Calls Try.prog 17 #[v] w fun e w' => e = .returned (.bool (decide (Sml M 12))) ∧ w' = w := by
  have HM := Lib.hid (And.intro hM hr)
  clear hM hr
  go_enter Try.func17, Try.ntmps17
  go_wp2_with (go_at_call 29; refine (kSmall_u v M 12 _ HM.out.1 hn HM.out.2 (by decide)).mono ?_; rintro e w1 ⟨rfl, rfl⟩)
  go_ret
  exact ⟨rfl, rfl⟩

set_option maxHeartbeats 1000000 in
theorem kSquare_u (v : Value) (M : List (List Int)) (w : World) (hM : MatR w v M) (hn : M.length ≤ 100000) (hr : ∀ i (h : i < M.length), M[i].length ≤ 100000) :
    Calls Try.prog 36 #[v] w fun e w' => e = .returned (.bool (decide (Vld M ∧ M.length = cols M))) ∧ Nw w.heap.size w w' := by
  obtain ⟨a0, c0, rfl⟩ := hM.shape
  have HM := Lib.hid (And.intro hM hr)
  clear hM hr
  by_cases hv : Vld M
  · have hc := hv.cols
    have hl := hv.2
    have HV := Lib.hid (show decide (Vld M) = true from decide_eq_true hv)
    have hd : decide (Vld M ∧ M.length = cols M) = ((M.length : Int) == (cols M : Int)) := by
      by_cases h : M.length = cols M
      · rw [decide_eq_true ⟨hv, h⟩]; simp; omega
      · rw [decide_eq_false fun h2 => h h2.2]; simp; omega
    have HD := Lib.hid hd
    clear hv hd
    go_enter Try.func36, Try.ntmps36
    go_wp2_with (first
      | (go_at_call 40; refine (kValid_u _ M _ HM.out.1 hn HM.out.2).mono ?_; rintro e w1 ⟨rfl, hb1⟩; rw [HV.out])
      | (go_at_call 41; refine (kColumns_u _ M _ (HM.out.1.hold hb1.b) hn).mono ?_; rintro e w2 ⟨rfl, rfl⟩))
    go_ret
    exact ⟨by rw [HD.out]; rfl, hb1⟩
  · have HV := Lib.hid (show decide (Vld M) = false from decide_eq_false hv)
    have hd : decide (Vld M ∧ M.length = cols M) = false := decide_eq_false fun h => hv h.1
    have HD := Lib.hid hd
    clear hv hd
    go_enter Try.func36, Try.ntmps36
    go_wp2_with (go_at_call 40; refine (kValid_u _ M _ HM.out.1 hn HM.out.2).mono ?_; rintro e w1 ⟨rfl, hb1⟩; rw [HV.out])
    go_ret
    exact ⟨by rw [HD.out]; rfl, hb1⟩

set_option maxHeartbeats 4000000 in
theorem cp5_u (v : Value) (M : List (List Int)) (w : World) (hM : MatR w v M) (hn : M.length ≤ 100000) (hr : ∀ i (h : i < M.length), M[i].length ≤ 100000) :
    Calls Try.prog 19 #[v] w fun e w' => ∃ v' rs, e = .returned v' ∧ OwnM w' w.heap.size v' rs M ∧ Below w.heap.size w w' := by
  obtain ⟨a0, c0, rfl⟩ := hM.shape
  have HM := Lib.hid (And.intro hM hr)
  have i1 : (M.length : Int) ≤ 100000 := by omega
  clear hM hr
  go_enter Try.func19, Try.ntmps19
  go_wp2
  go_loopw [3, 8] (fun ov iv wr => ∃ (k : Nat) (rs : Nat → Value), iv = .int .i64 k ∧ k ≤ M.length ∧ OwnM wr w.heap.size ov rs (M.take k) ∧ Below w.heap.size w wr) (fun _ iv _ => M.length - (intOf iv).toNat)
  case atStart => exact ⟨0, fun _ => undef, rfl, Nat.zero_le _, OwnM.nil _ _ _, Below.refl _ _⟩
  case round =>
    obtain ⟨k, rs, rfl, hk, hown, hb⟩ := hrel
    have i0 : (0 : Int) ≤ (k : Int) := by omega
    by_cases hlt : k < M.length
    · obtain ⟨b, o, c, rv, e, hc, hl⟩ := (HM.out.1.hold hb).rows k hlt
      obtain ⟨rfl, rfl⟩ : a0 = some ⟨b, o, none⟩ ∧ c0 = c := by simp at e; exact e
      have hrk := HM.out.2 k hlt
      have htk : M.take (k + 1) = M.take k ++ [M[k]] := by rw [List.take_succ_eq_append_getElem hlt]
      obtain ⟨x, hx⟩ : ∃ x, x = M[k] := ⟨_, rfl⟩
      rw [← hx] at hl hrk htk
      have hlen : (M.take k).length = k := by rw [List.length_take]; omega
      have i3 : (k : Int) < (M.length : Int) := by omega
      have HW := Lib.hid (And.intro hown (And.intro hb (And.intro hl (And.intro htk hlen))))
      clear hown hb hl htk hlen hx e hlt
      go_wp2_with (first
        | (at_builtin; refine append_all rfl (.tmp 13) (.tmp 14) rfl wr.heap.size _ _ rfl (empty_own _ _ (Nat.le_refl _)) _ x rfl (HW.out.2.2.1.hold (Below.made (Nat.le_refl _) (Below.refl _ _) _)) (by simp) (by omega) (by simp) ?_; intro v1 w1 hown1 hb1; rw [List.nil_append] at hown1; obtain ⟨a1, c1, rfl⟩ := hown1.slice; have HO1 := Lib.hid (And.intro hown1 ((Below.made (Nat.le_refl _) (Below.refl _ _) _).trans hb1)); clear hown1 hb1)
        | (at_builtin; refine append_mat rfl (.tmp 12) (.tmp 16) rfl w.heap.size u3 rs (M.take k) rfl (HW.out.1.hold HO1.out.2) _ x (HO1.out.1.low HW.out.2.1.size) (HW.out.1.fresh HO1.out.1).1 (HW.out.1.fresh HO1.out.1).2 rfl (by rw [HW.out.2.2.2.2]; omega) (Nat.le_trans HW.out.2.1.size HO1.out.2.size) ?_; intro g2 c2 w2 hown2 _ hg2))
      have hle : (M.take k).length = k := HW.out.2.2.2.2
      rw [← HW.out.2.2.2.1, hle] at hown2
      exact ⟨⟨k + 1, _, by go_num, by omega, hown2, (Below.next (Nat.le_refl _) HW.out.2.1 HO1.out.2).grown hg2 (Nat.le_trans HW.out.2.1.size HO1.out.2.size) (fun b e => (HW.out.1.outer.lt b e).1)⟩, by simp [intOf]; omega⟩
    · obtain rfl : k = M.length := by omega
      rw [List.take_length] at hown
      have HW := Lib.hid (And.intro hown hb)
      clear hown hb
      go_wp2
      go_ret
      exact ⟨_, rs, rfl, HW.out.1, HW.out.2⟩

/-- The rows of the identity. -/
def idRow (n i : Nat) : List Int := (List.range n).map fun j => if i = j then 1 else 0
def idL (n : Nat) : List (List Int) := (List.range n).map (idRow n)
theorem idRow_set (n i : Nat) : (List.replicate n (0 : Int)).set i 1 = idRow n i := by
  refine List.ext_getElem (by simp [idRow]) fun j h1 h2 => ?_
  rw [List.getElem_set]
  simp [idRow]
theorem idL_take {n k : Nat} (h : k < n) : (idL n).take (k + 1) = (idL n).take k ++ [idRow n k] := by
  rw [List.take_succ_eq_append_getElem (by simpa [idL] using h)]
  simp [idL]

set_option maxHeartbeats 4000000 in
theorem kIdentity_u (n : Nat) (w : World) (hn : n ≤ 1000) :
    Calls Try.prog 32 #[.int .i64 n] w fun e w' => ∃ v' rs, e = .returned v' ∧ OwnM w' w.heap.size v' rs (idL n) ∧ Below w.heap.size w w' := by
  have i1 : (n : Int) ≤ 1000 := by omega
  have i2 : (0 : Int) ≤ (n : Int) := by omega
  go_enter Try.func32, Try.ntmps32
  go_wp2
  go_loopw [3, 4] (fun ov iv wr => ∃ (k : Nat) (rs : Nat → Value), iv = .int .i64 k ∧ k ≤ n ∧ OwnM wr w.heap.size ov rs ((idL n).take k) ∧ Below w.heap.size w wr) (fun _ iv _ => n - (intOf iv).toNat)
  case atStart => exact ⟨0, fun _ => undef, rfl, Nat.zero_le _, empty_mat _ _ _ (Nat.le_refl _), Below.made (Nat.le_refl _) (Below.refl _ _) _⟩
  case round =>
    obtain ⟨k, rs, rfl, hk, hown, hb⟩ := hrel
    have i0 : (0 : Int) ≤ (k : Int) := by omega
    by_cases hlt : k < n
    · have htk := idL_take hlt
      have hlen : ((idL n).take k).length = k := by simp [idL]; omega
      have i3 : (k : Int) < (n : Int) := by omega
      have HW := Lib.hid (And.intro hown (And.intro hb (And.intro htk hlen)))
      clear hown hb htk hlen
      go_upto_region 6 with (at_make; refine make_zeros rfl (.tmp 12) (.tmp 12) rfl wr.heap.size n rfl rfl (by omega) (Nat.le_refl _) ?_; intro v1 w1 hown1 hv1 hb1; subst hv1)
      have hkl : k < (List.replicate n (0 : Int)).length := by simp; exact hlt
      have hc := hown1.cell hkl
      rw [List.getElem_replicate] at hc
      have hz := hown1.thawed k
      have hs := hown1.set k 1
      rw [idRow_set] at hs
      have hb2 := Below.wrote hb1 (Nat.le_refl _) hb1.size hown1 hs.2
      have HS := Lib.hid (And.intro hs.1 hb2)
      clear hs hb2 hown1 hb1 hlt hkl
      go_wp2_with (first
        | (at_builtin; refine append_mat rfl (.tmp 17) (.tmp 19) rfl w.heap.size u3 rs ((idL n).take k) rfl (HW.out.1.hold HS.out.2) _ (idRow n k) (HS.out.1.low HW.out.2.1.size) (HW.out.1.fresh HS.out.1).1 (HW.out.1.fresh HS.out.1).2 (by show Value.slice _ _ _ = _; rw [World.size_setCell]) (by rw [HW.out.2.2.2]; omega) (Nat.le_trans HW.out.2.1.size HS.out.2.size) ?_; intro g2 c2 w2 hown2 _ hg2))
      have hle : ((idL n).take k).length = k := HW.out.2.2.2
      rw [← HW.out.2.2.1, hle] at hown2
      have hmin : min k (idL n).length = k := by simp [idL]; omega
      exact ⟨⟨k + 1, _, by go_num, by omega, by rw [hmin]; exact hown2, (Below.next (Nat.le_refl _) HW.out.2.1 HS.out.2).grown hg2 (Nat.le_trans HW.out.2.1.size HS.out.2.size) (fun b e => (HW.out.1.outer.lt b e).1)⟩, by simp [intOf]; omega⟩
    · obtain rfl : k = n := by omega
      rw [List.take_of_length_le (by simp [idL])] at hown
      have HW := Lib.hid (And.intro hown hb)
      clear hown hb
      go_wp2
      go_ret
      exact ⟨_, rs, rfl, HW.out.1, HW.out.2⟩
end Go.Proofs.Ytdcdaclkeocfpaa
