/- The walks of package linear's columns, Valid, usable. The walks of package linear's copyOf, addMultiple, scale, firstNonzero; make of a list of rows. The walk of package linear's clearColumn; determinants of what elimination leaves. The walk of package linear's eliminate. The walks of package linear's Reduce, Rank, Determinant. The walks of package linear's Apply and Multiply. A region that draws its order and ends with a store into what it has read: S holds behind every operation but the last. append onto a row of the call's own that is full; the walk of package linear's Solve. What the reduced form of (A | 1) says of the inverse. The walk of package linear's Solve. The walk of package linear's Kernel. The walk of package linear's Inverse; the contracts of package linear. -/
import Derived.Test.YtdcdaclkeocfpaaKM
import Derived.Test.YtdcdaclkeocfpaaKJ
import Derived.Lib.AppendZerosOnto
namespace Go.Proofs.Ytdcdaclkeocfpaa
open Go.RowKit Go.BigFrame
open Classical

set_option maxHeartbeats 1000000 in
theorem mcolumns_u (v : Value) (M : List (List Int)) (w : World) (hM : MatR w v M) (_hn : M.length ≤ 100000) :
    Calls Try.prog 66 #[v] w fun e w' => e = .returned (.int .i64 (cols M)) ∧ w' = w := by
  obtain ⟨a0, c0, rfl⟩ := hM.shape
  by_cases h : M.length = 0
  · have hc : cols M = 0 := by
      have : M = [] := List.length_eq_zero_iff.1 h
      subst this; rfl
    rw [hc]
    have i1 : (M.length : Int) = 0 := by omega
    have i2 : ((M.length : Int) == 0) = true := by simpa using i1
    clear hM hc h
    go_enter Try.func66, Try.ntmps66
    go_wp2
    go_ret
    exact ⟨rfl, rfl⟩
  · have h0 : 0 < M.length := by omega
    obtain ⟨b, o, c, rv, e, hc, hl⟩ := hM.rows 0 h0
    obtain ⟨rfl, rfl⟩ : a0 = some ⟨b, o, none⟩ ∧ c0 = c := by simp at e; exact e
    obtain ⟨ra, rc, rfl⟩ := hl.shape
    rw [cols_at h0]
    have i1 : ¬ (M.length : Int) = 0 := by omega
    have i2 : ((M.length : Int) == 0) = false := by simpa using i1
    have i3 : (0 : Int) < (M.length : Int) := by omega
    rw [Nat.add_zero] at hc
    clear hM e hl h
    go_enter Try.func66, Try.ntmps66
    go_wp2
    go_ret
    exact ⟨rfl, rfl⟩

set_option maxHeartbeats 1000000 in
theorem mValid1_u (B : Nat) (a : Option Addr) (x c : Nat) (n : Int) (w : World) (hB : w.cell? ⟨B, 0, none⟩ = some (.int .i64 n)) :
    Calls Try.prog 83 #[.slice a x c, .pointer (some ⟨B, 0, none⟩)] w fun e w' => e = .returned (.bool ((x : Int) != n)) ∧ Nw w.heap.size w w' := by
  go_enter Try.func83, Try.ntmps83
  go_wp2
  go_ret
  exact ⟨rfl, Nw.refl _ _⟩

set_option maxHeartbeats 4000000 in
theorem mIndexF_u (B n : Nat) (v : Value) (M : List (List Int)) (w : World) (hM : MatR w v M) (hB : w.cell? ⟨B, 0, none⟩ = some (.int .i64 n)) (hn : M.length ≤ 100000) (hr : ∀ i (h : i < M.length), M[i].length ≤ 100000) (_hm : n ≤ 100000) :
    Calls Try.prog 110 #[v, .func (.func 83) #[] #[.pointer (some ⟨B, 0, none⟩)]] w fun e w' => ∃ k : Int, e = .returned (.int .i64 k) ∧ decide (0 ≤ k) = !decide (∀ i (h : i < M.length), M[i].length = n) ∧ Nw w.heap.size w w' := by
  obtain ⟨a0, c0, rfl⟩ := hM.shape
  have HM := Lib.hid (And.intro hM (And.intro hr hB))
  have i1 : (M.length : Int) ≤ 100000 := by omega
  clear hM hr hB
  go_enter Try.func110, Try.ntmps110
  go_wp2
  go_loopw [8] (fun iv wr => ∃ k : Nat, iv = .int .i64 k ∧ k ≤ M.length ∧ (∀ i (h : i < M.length), i < k → M[i].length = n) ∧ Nw w.heap.size w wr) (fun iv _ => M.length - (intOf iv).toNat)
  case atStart => exact ⟨0, rfl, Nat.zero_le _, fun i _ h => absurd h (Nat.not_lt_zero _), Nw.refl _ _⟩
  case round =>
    obtain ⟨k, rfl, hk, hall, hb⟩ := hrel
    have i0 : (0 : Int) ≤ (k : Int) := by omega
    by_cases hlt : k < M.length
    · obtain ⟨b, o, c, rv, e, hc, hl⟩ := (HM.out.1.hold hb.b).rows k hlt
      obtain ⟨rfl, rfl⟩ : a0 = some ⟨b, o, none⟩ ∧ c0 = c := by simp at e; exact e
      obtain ⟨ra, rc, rfl⟩ := hl.shape
      have hrk := HM.out.2.1 k hlt
      have hBk := hb.hold HM.out.2.2
      obtain ⟨x, hx⟩ : ∃ x, x = M[k].length := ⟨_, rfl⟩
      rw [← hx] at hc hrk
      have i3 : (k : Int) < (M.length : Int) := by omega
      by_cases hxn : x = n
      · have i4 : ((x : Int) != (n : Int)) = false := by simp [hxn]
        have HA := Lib.hid (And.intro hall (And.intro hb (And.intro hx hxn)))
        clear hall hb hx hxn e hl
        go_wp2_with (go_at_call 83; refine (mValid1_u B _ x _ n _ hBk).mono ?_; rintro _ w1 ⟨rfl, hb1⟩; rw [i4])
        refine ⟨⟨k + 1, by go_num, by omega, fun i hi hik => ?_, Nw.next (Nat.le_refl _) HA.out.2.1 hb1⟩, by simp [intOf]; omega⟩
        rcases Nat.lt_succ_iff_lt_or_eq.1 hik with e | e
        · exact HA.out.1 i hi e
        · subst e; rw [← HA.out.2.2.1]; exact HA.out.2.2.2
      · have i4 : ((x : Int) != (n : Int)) = true := by simp; omega
        have hd : decide (∀ i (h : i < M.length), M[i].length = n) = false := decide_eq_false fun h => hxn (by rw [hx]; exact h k hlt)
        have HA := Lib.hid (And.intro hb hd)
        clear hall hb hx hxn e hl hd
        go_wp2_with (go_at_call 83; refine (mValid1_u B _ x _ n _ hBk).mono ?_; rintro _ w1 ⟨rfl, hb1⟩; rw [i4])
        go_ret
        exact ⟨_, rfl, by rw [HA.out.2]; simp, Nw.next (Nat.le_refl _) HA.out.1 hb1⟩
    · obtain rfl : k = M.length := by omega
      have hd : decide (∀ i (h : i < M.length), M[i].length = n) = true := decide_eq_true fun i h => hall i h h
      have HA := Lib.hid (And.intro hb hd)
      clear hall hb hd
      go_wp2
      go_ret
      exact ⟨_, rfl, by rw [HA.out.2]; decide, HA.out.1⟩

set_option maxHeartbeats 1000000 in
theorem mContainsF_u (B n : Nat) (v : Value) (M : List (List Int)) (w : World) (hM : MatR w v M) (hB : w.cell? ⟨B, 0, none⟩ = some (.int .i64 n)) (hn : M.length ≤ 100000) (hr : ∀ i (h : i < M.length), M[i].length ≤ 100000) (hm : n ≤ 100000) :
    Calls Try.prog 82 #[v, .func (.func 83) #[] #[.pointer (some ⟨B, 0, none⟩)]] w fun e w' => e = .returned (.bool (!decide (∀ i (h : i < M.length), M[i].length = n))) ∧ Nw w.heap.size w w' := by
  have HM := Lib.hid (And.intro hM (And.intro hr hB))
  clear hM hr hB
  go_enter Try.func82, Try.ntmps82
  go_wp2_with (go_at_call 110; refine (mIndexF_u B n v M _ HM.out.1 HM.out.2.2 hn HM.out.2.1 hm).mono ?_; rintro _ w1 ⟨k, rfl, hk, hb1⟩)
  go_ret
  exact ⟨by rw [← hk]; rfl, hb1⟩

set_option maxHeartbeats 2000000 in
theorem mValid_u (v : Value) (M : List (List Int)) (w : World) (hM : MatR w v M) (hn : M.length ≤ 100000) (hr : ∀ i (h : i < M.length), M[i].length ≤ 100000) :
    Calls Try.prog 44 #[v] w fun e w' => e = .returned (.bool (decide (Vld M))) ∧ Nw w.heap.size w w' := by
  have hmf : ∀ (fn : Fn) (first cap : Array Value) (w : World), (Instr.makeFunc fn first cap).run Try.prog w = .ok (.func fn first cap) w := fun _ _ _ _ => rfl
  obtain ⟨a0, c0, rfl⟩ := hM.shape
  have hcb : cols M ≤ 100000 := by
    by_cases h0 : 0 < M.length
    · rw [cols_at h0]; exact hr 0 h0
    · have : M = [] := List.length_eq_zero_iff.1 (by omega)
      subst this; simp [cols]
  have hd : decide (Vld M) = (decide (M.length ≤ 64 ∧ cols M ≤ 64) && decide (∀ i (h : i < M.length), M[i].length = cols M)) := by
    rw [← Bool.decide_and]
    exact decide_eq_decide.2 ⟨fun h => ⟨⟨h.2, h.cols⟩, fun i hi => (h.1 i hi).1⟩, fun h => ⟨fun i hi => ⟨h.2 i hi, by rw [h.2 i hi]; exact h.1.2⟩, h.1.1⟩⟩
  have HM := Lib.hid (And.intro hM (And.intro hr hd))
  have i1 : (M.length : Int) ≤ 100000 := by omega
  clear hM hr hd
  by_cases h1 : M.length ≤ 64
  · have j1 : decide ((64 : Int) < (M.length : Int)) = false := by simp; omega
    by_cases h2 : cols M ≤ 64
    · have j2 : decide ((64 : Int) < (cols M : Int)) = false := by simp; omega
      have HD := Lib.hid (decide_eq_true (show M.length ≤ 64 ∧ cols M ≤ 64 from ⟨h1, h2⟩))
      go_enter Try.func44, Try.ntmps44
      go_wp2_with (first
        | (go_at_call 66; refine (mcolumns_u _ M _ (HM.out.1) hn).mono ?_; rintro e w1 ⟨rfl, rfl⟩)
        | (go_at_call 82; refine (mContainsF_u _ (cols M) _ M _ (HM.out.1.hold (Below.made (Nat.le_refl _) (Below.refl _ _) _)) (by go_simp) hn HM.out.2.1 hcb).mono ?_; rintro _ w2 ⟨rfl, hb2⟩))
      go_ret
      exact ⟨by rw [HM.out.2.2, HD.out]; simp, Nw.next (Nat.le_refl _) (Nw.made (Nat.le_refl _) (Nw.refl _ _) _ _) hb2⟩
    · have j2 : decide ((64 : Int) < (cols M : Int)) = true := by simp; omega
      have HD := Lib.hid (decide_eq_false (show ¬ (M.length ≤ 64 ∧ cols M ≤ 64) from fun h => h2 h.2))
      go_enter Try.func44, Try.ntmps44
      go_wp2_with (first
        | (go_at_call 66; refine (mcolumns_u _ M _ (HM.out.1) hn).mono ?_; rintro e w1 ⟨rfl, rfl⟩))
      go_ret
      exact ⟨by rw [HM.out.2.2, HD.out]; rfl, Nw.made (Nat.le_refl _) (Nw.refl _ _) _ _⟩
  · have j1 : decide ((64 : Int) < (M.length : Int)) = true := by simp; omega
    have HD := Lib.hid (decide_eq_false (show ¬ (M.length ≤ 64 ∧ cols M ≤ 64) from fun h => h1 h.1))
    go_enter Try.func44, Try.ntmps44
    go_wp2_with (first
      | (go_at_call 66; refine (mcolumns_u _ M _ (HM.out.1) hn).mono ?_; rintro e w1 ⟨rfl, rfl⟩))
    go_ret
    exact ⟨by rw [HM.out.2.2, HD.out]; rfl, Nw.made (Nat.le_refl _) (Nw.refl _ _) _ _⟩

set_option maxHeartbeats 1000000 in
theorem musable_u (p : Int) (v : Value) (M : List (List Int)) (w : World) (hM : MatR w v M) (hn : M.length ≤ 100000) (hr : ∀ i (h : i < M.length), M[i].length ≤ 100000) :
    Calls Try.prog 61 #[.agg #[.int .u64 p], v] w fun e w' => e = .returned (.bool (decide (OkM p M))) ∧ Nw w.heap.size w w' := by
  obtain ⟨a0, c0, rfl⟩ := hM.shape
  have HM := Lib.hid (And.intro hM (And.intro hr (okM_dec p M)))
  clear hM hr
  by_cases hk : known p = true
  · have HK := Lib.hid hk
    clear hk
    go_enter Try.func61, Try.ntmps61
    go_wp2_with (first
      | (go_at_call 75; refine (valid_any _ _).mono ?_; rintro e w1 ⟨rfl, hb1⟩; rw [HK.out])
      | (go_at_call 44; refine (mValid_u _ M _ (HM.out.1.hold (Below.next (Nat.le_refl _) (Below.made (Nat.le_refl _) (Below.refl _ _) _) hb1.b)) hn HM.out.2.1).mono ?_; rintro e w2 ⟨rfl, hb2⟩))
    go_ret
    exact ⟨by rw [← HM.out.2.2, HK.out]; rfl, Nw.next (Nat.le_refl _) (Nw.next (Nat.le_refl _) (Nw.made (Nat.le_refl _) (Nw.refl _ _) _ _) hb1) hb2⟩
  · have hk : known p = false := by simpa using hk
    have HK := Lib.hid hk
    clear hk
    go_enter Try.func61, Try.ntmps61
    go_wp2_with (go_at_call 75; refine (valid_any _ _).mono ?_; rintro e w1 ⟨rfl, hb1⟩; rw [HK.out])
    go_ret
    exact ⟨by rw [← HM.out.2.2, HK.out]; rfl, Nw.next (Nat.le_refl _) (Nw.made (Nat.le_refl _) (Nw.refl _ _) _ _) hb1⟩
end Go.Proofs.Ytdcdaclkeocfpaa

namespace Go.Proofs.Ytdcdaclkeocfpaa
open Go.RowKit Go.BigFrame
open Classical

theorem OwnM.setIn {w : World} {base g n cp : Nat} {v : Value} {rs : Nat → Value} {S : List (List Int)} {a : Nat} {X : List Int} (h : OwnM w base v rs (S.set a X)) (ha : a < S.length) (e : rs a = .slice (some ⟨g, 0, none⟩) n cp) (t : Nat) (x : Int) [hx : U x] :
    OwnM (w.setCell ⟨g, t, none⟩ (.int .u64 x)) base v rs (S.set a (X.set t x)) ∧ w.grownBy (w.setCell ⟨g, t, none⟩ (.int .u64 x)) (some g) := by
  have h1 := h.setAt (i := a) (by rw [List.length_set]; exact ha) e t x
  rw [List.getElem_set_self, List.set_set] at h1
  exact h1
theorem OwnM.wrote {B base g : Nat} {w a b : World} {v : Value} {rs : Nat → Value} {L : List (List Int)} (h : Below B w a) (hB : B ≤ base) (hs : B ≤ a.heap.size) (hw : OwnM a base v rs L) {i : Nat} (hi : i < L.length) {n cp : Nat} (e : rs i = .slice (some ⟨g, 0, none⟩) n cp) (k : a.grownBy b (some g)) : Below B w b :=
  h.grown k hs fun j ej => by
    cases ej
    have := ((hw.row i hi).row.lt g (by rw [e]; rfl)).1
    omega
theorem OwnM.wroteO {B base : Nat} {w a b : World} {v : Value} {rs : Nat → Value} {L : List (List Int)} (h : Below B w a) (hB : B ≤ base) (hs : B ≤ a.heap.size) (hw : OwnM a base v rs L) (k : a.grownBy b v.ownBlock) : Below B w b :=
  h.grown k hs fun j ej => by
    have := (hw.outer.lt j ej).1
    omega
theorem OwnM.out {w : World} {base g n cp : Nat} {rs : Nat → Value} {L : List (List Int)} (h : OwnM w base (.slice (some ⟨g, 0, none⟩) n cp) rs L) {i : Nat} (hi : i < L.length) {v : Value} (e : rs i = v) : w.cell? ⟨g, i, none⟩ = some v := by
  rw [← e]; exact h.cell hi
theorem OwnM.cellIn {w : World} {base g n cp : Nat} {v : Value} {rs : Nat → Value} {L : List (List Int)} (h : OwnM w base v rs L) {i : Nat} (hi : i < L.length) (e : rs i = .slice (some ⟨g, 0, none⟩) n cp) {X : List Int} (hX : L[i] = X) {t : Nat} (ht : t < X.length) :
    w.cell? ⟨g, t, none⟩ = some (.int .u64 X[t]) ∧ w.frozen? ⟨g, t, none⟩ = false ∧ U X[t] := by
  subst hX
  have h1 := h.row i hi
  rw [e] at h1
  exact ⟨h1.cell ht, h1.thawed t, h1.us _ (List.getElem_mem ht)⟩
/-- 'make([][]uint64, n)'. -/
theorem make_rows {w : World} {ops : Array Oper} {rest : List Oper} {o : Oper} {a : Act} {Q : Exit → Act → World → Prop} (hgd : o.guard = none) (s x : Operand) (ho : o.op = Op.makeSlice 23 s x)
    (base n : Nat) (hs : a.eval s = .int .i64 n) (hx : a.eval x = .int .i64 n) (hn : n ≤ 1000000) (hbase : base ≤ w.heap.size)
    (h : ∀ v' w', OwnM w' base v' (fun _ => .slice none 0 0) (List.replicate n []) → v' = .slice (some ⟨w.heap.size, 0, none⟩) n n → Below base w w' → wpList Try.prog ops Q rest (a.put o.dst v') w') : wpList Try.prog ops Q (o :: rest) a w := by
  obtain ⟨i0, hi, hz0, hz1, hz2⟩ := info_parts info_row
  refine wpList_make_full w hgd s x 23 ho base 36 i0 (.slice none 0 0) 1 Try.underlying23 hi hz0 hz1 .i64 .i64 n n n hs hx rfl rfl (by rw [hz2]; omega) (by unfold maxLen; omega) hbase ?_
  intro w' hown hg
  have e : (madeCells (Value.slice none 0 0).cells (n * 1)).toList = rowsOf (fun _ => .slice none 0 0) n := by
    rw [Nat.mul_one, rowsOf, List.map_const', List.length_range, List.eq_replicate_iff]
    simp [madeCells, Value.cells, Nat.mod_one]
  refine h _ w' ⟨?_, fun i hi => ?_, fun i j _ _ _ g hg => (by cases hg), fun i _ g hg => (by cases hg)⟩ rfl ((Below.refl _ _).grown hg hbase (fun k e => by cases e))
  · rw [List.length_replicate, ← e]; exact hown
  · rw [List.getElem_replicate]; exact Own.nil _ _
/-- The first i rows are there. -/
def fillL (F : List (List Int)) (i : Nat) : List (List Int) := F.take i ++ List.replicate (F.length - i) []
theorem fillL_len {F : List (List Int)} {i : Nat} (h : i ≤ F.length) : (fillL F i).length = F.length := by unfold fillL; rw [List.length_append, List.length_take, List.length_replicate]; omega
theorem fillL_zero (F : List (List Int)) : fillL F 0 = List.replicate F.length [] := by simp [fillL]
theorem fillL_all (F : List (List Int)) : fillL F F.length = F := by simp [fillL]
theorem fillL_set {F : List (List Int)} {i : Nat} (h : i < F.length) : (fillL F i).set i F[i] = fillL F (i + 1) := by
  unfold fillL
  rw [List.take_succ_eq_append_getElem h, List.set_append, if_neg (by rw [List.length_take]; omega), List.length_take, Nat.min_eq_left (by omega), Nat.sub_self, show F.length - i = (F.length - (i + 1)) + 1 by omega, List.replicate_succ, List.set_cons_zero, List.append_assoc]
  rfl
theorem redL_rd {p : Int} (hk : known p = true) (X : List Int) : updK (fun t => rd p (X.getD t 0)) (List.replicate X.length 0) 0 X.length = X.map (· % p) := by
  refine List.ext_getElem (by rw [updK_len]; simp) fun i h1 h2 => ?_
  rw [updK_len, List.length_replicate] at h1
  simp only [updK, List.getElem_map, List.getElem_range]
  rw [if_pos (by omega), getD_lt _ h1, rd, if_pos hk]

set_option maxRecDepth 100000 in
set_option maxHeartbeats 4000000 in
theorem mcopyOf_w (p : Int) [_hpU : U p] (hk : known p = true) (v : Value) (M : List (List Int)) (w : World) (hM : MatR w v M) (hn : M.length ≤ 100) (hr : ∀ i (h : i < M.length), M[i].length ≤ 100) :
    Calls Try.prog 62 #[.agg #[.int .u64 p], v] w fun e w' => ∃ v' rs, e = .returned v' ∧ OwnM w' (w.heap.size + 1) v' rs (redL p M) ∧ (∀ k (h : k < M.length), ∃ g, rs k = .slice (some ⟨g, 0, none⟩) M[k].length M[k].length) ∧ w.heap.size + 1 ≤ w'.heap.size ∧ Below w.heap.size w w' := by
  obtain ⟨a0, c0, rfl⟩ := hM.shape
  have HM := Lib.hid (And.intro hM (And.intro hr hk))
  have i1 : (M.length : Int) ≤ 100 := by omega
  clear hM hr hk
  go_enter Try.func62, Try.ntmps62
  go_wp2_with (at_make; refine make_rows rfl (.tmp 11) (.tmp 11) rfl (w.heap.size + 1) M.length rfl rfl (by omega) (by simp) ?_; intro v1 w1 hown1 hv1 hb1; subst hv1)
  have hb0 : Below w.heap.size w (w.alloc (.cells #[.int .u64 p] 27)) := Below.made (Nat.le_refl _) (Below.refl _ _) _
  have hbx : w1.cell? ⟨w.heap.size, 0, none⟩ = some (.int .u64 p) := (hb1.cell (by show w.heap.size < w.heap.size + 1; omega)).trans (by go_simp)
  have hb := hb0.trans (hb1.mono (by omega))
  have HO := Lib.hid (And.intro hown1 (And.intro hb hbx))
  have hsz := hb1.size
  simp only [World.size_alloc] at hsz
  clear hown1 hb1 hb hb0 hbx
  go_loopw [15] (fun iv wr => ∃ (i : Nat) (rs : Nat → Value), iv = .int .i64 i ∧ i ≤ M.length ∧ OwnM wr (w.heap.size + 1) (.slice (some ⟨w.heap.size + 1, 0, none⟩) M.length M.length) rs (fillL (redL p M) i) ∧ wr.cell? ⟨w.heap.size, 0, none⟩ = some (.int .u64 p) ∧ Below w.heap.size w wr ∧ w.heap.size + 1 ≤ wr.heap.size ∧ (∀ k (h : k < M.length), k < i → ∃ g, rs k = .slice (some ⟨g, 0, none⟩) M[k].length M[k].length)) (fun iv _ => M.length - (intOf iv).toNat)
  case atStart => exact ⟨0, _, rfl, Nat.zero_le _, by rw [fillL_zero, redL_len]; simpa using HO.out.1, HO.out.2.2, HO.out.2.1, hsz, fun k _ h => absurd h (Nat.not_lt_zero _)⟩
  case round =>
    obtain ⟨i, rs, rfl, hi, hown, hbx, hb, hsr, hex⟩ := hrel
    have i0 : (0 : Int) ≤ (i : Int) := by omega
    by_cases hlt : i < M.length
    · have HEX := Lib.hid hex
      clear hex
      obtain ⟨b, o, c, rv, e, hcw, hl⟩ := HM.out.1.rows i hlt
      have hc := Below.hold hb hcw
      clear hcw
      obtain ⟨rfl, rfl⟩ : a0 = some ⟨b, o, none⟩ ∧ c0 = c := by simp at e; exact e
      obtain ⟨ra, rc, rfl⟩ := hl.shape
      have hrl := HM.out.2.1 i hlt
      have hF := fillL_set (F := redL p M) (i := i) (by rw [redL_len]; exact hlt)
      rw [redL_at] at hF
      have hFl : (fillL (redL p M) i).length = M.length := by rw [fillL_len (by rw [redL_len]; omega), redL_len]
      obtain ⟨S, hS⟩ : ∃ S, S = fillL (redL p M) i := ⟨_, rfl⟩
      rw [← hS] at hown hF hFl
      obtain ⟨X, hX⟩ : ∃ X, X = M[i] := ⟨_, rfl⟩
      rw [← hX] at hl hrl hc hF
      have HX0 := Lib.hid hX
      have i3 : (i : Int) < (M.length : Int) := by omega
      have i4 : (X.length : Int) ≤ 100 := by omega
      have hci := hown.cell (i := i) (by omega)
      have hzi := hown.thawed i
      have HW := Lib.hid (And.intro hown (And.intro hb (And.intro hl (And.intro hF (And.intro hFl (And.intro hrl hbx))))))
      clear hown hl hF hX e hS
      go_wp2_with (at_make; refine make_zeros rfl (.tmp 23) (.tmp 23) rfl wr.heap.size X.length rfl rfl (by omega) (Nat.le_refl _) ?_; intro v1 w1 hown1 hv1 hb1; subst hv1; have hci1 := Below.hold hb1 hci; have hzi1 := (HW.out.1.hold hb1).thawed i)
      have hbl : ∀ k, k < S.length → k ≠ i → ∀ b, (rs k).ownBlock = some b → (Value.slice (some ⟨wr.heap.size, 0, none⟩) X.length X.length).ownBlock ≠ some b := fun k hk _ b hb e2 => by
        have := ((HW.out.1.row k hk).row.lt b hb).2
        have e3 : wr.heap.size = b := by simpa [Value.ownBlock] using e2
        omega
      have hst := (HW.out.1.hold hb1).setRow (i := i) (hown1.low hsr) hbl (fun e2 => by
        have := (HW.out.1.outer.lt (w.heap.size + 1) rfl).2
        have e3 : wr.heap.size = w.heap.size + 1 := by simpa [Value.ownBlock] using e2
        omega)
      have hb2 : Below w.heap.size w _ := OwnM.wroteO (Below.next (Nat.le_refl _) hb hb1) (by omega) (Nat.le_trans hb.size hb1.size) (HW.out.1.hold hb1) hst.2
      have hbx2 : (w1.setCell ⟨w.heap.size + 1, i, none⟩ (.slice (some ⟨wr.heap.size, 0, none⟩) X.length X.length)).cell? ⟨w.heap.size, 0, none⟩ = some (.int .u64 p) := by
        rw [World.cell?_setCell_far _ _ _ _ (by show w.heap.size + 1 ≠ w.heap.size; omega)]
        exact Below.hold hb1 HW.out.2.2.2.2.2.2
      have HS := Lib.hid (And.intro hst.1 (And.intro hb2 hbx2))
      obtain ⟨rs1, hrs1⟩ : ∃ f : Nat → Value, f = rsSet rs i (.slice (some ⟨wr.heap.size, 0, none⟩) X.length X.length) := ⟨_, rfl⟩
      have hr1 : rs1 i = .slice (some ⟨wr.heap.size, 0, none⟩) X.length X.length := by rw [hrs1, rsSet_at]
      have HE1 := Lib.hid (show ∀ k (h : k < M.length), k < i + 1 → ∃ g, rs1 k = .slice (some ⟨g, 0, none⟩) M[k].length M[k].length from fun k h hk => by
        rcases Nat.lt_succ_iff_lt_or_eq.1 hk with e | e
        · rw [hrs1, rsSet_off rs _ (by omega)]; exact HEX.out k h e
        · subst e; exact ⟨_, by rw [hr1, HX0.out]⟩)
      rw [← hrs1] at HS
      have hsz2 : w.heap.size + 1 ≤ w1.heap.size := Nat.le_trans hsr hb1.size
      clear hst hb2 hbl hci hzi hci1 hzi1 hown1 hb1 hbx2 hrs1 hbx hb
      obtain ⟨G, hG⟩ : ∃ G, G = wr.heap.size := ⟨_, rfl⟩
      rw [← hG] at HS hr1 ⊢
      have hGw : w.heap.size + 1 ≤ G := by omega
      clear hG hc
      go_loopw [28] (fun jv wi => ∃ j : Nat, jv = .int .i64 j ∧ j ≤ X.length ∧ OwnM wi (w.heap.size + 1) (.slice (some ⟨w.heap.size + 1, 0, none⟩) M.length M.length) rs1 (S.set i (updK (fun t => rd p (X.getD t 0)) (List.replicate X.length 0) 0 j)) ∧ wi.cell? ⟨w.heap.size, 0, none⟩ = some (.int .u64 p) ∧ Below w.heap.size w wi ∧ w.heap.size + 1 ≤ wi.heap.size) (fun jv _ => X.length - (intOf jv).toNat)
      case atStart => exact ⟨0, rfl, Nat.zero_le _, by rw [updK_zero]; exact HS.out.1, HS.out.2.2, HS.out.2.1, by simpa using hsz2⟩
      case round =>
        obtain ⟨j, rfl, hj, hown, hbx, hb, hsi⟩ := hrel
        have j0 : (0 : Int) ≤ (j : Int) := by omega
        by_cases hjl : j < X.length
        · obtain ⟨b1, o1, c1, e1, hcc⟩ := (HW.out.2.2.1.hold hb).cells j hjl
          obtain ⟨rfl, rfl⟩ : ra = some ⟨b1, o1, none⟩ ∧ rc = c1 := by simp at e1; exact e1
          clear e1
          have hiS : ∀ Y, i < (S.set i Y).length := fun Y => by rw [List.length_set, HW.out.2.2.2.2.1]; omega
          have hux := HW.out.2.2.1.us X[j] (List.getElem_mem hjl)
          have hco := hown.out (hiS _) hr1
          have hci := hown.cellIn (t := j) (hiS _) hr1 (List.getElem_set_self _) (by rw [updK_len]; simpa using hjl)
          have hup := updK_set0 (f := fun t => rd p (X.getD t 0)) (L := List.replicate X.length 0) (k := j)
          rw [getD_lt _ hjl] at hup
          obtain ⟨y, hy⟩ : ∃ y, y = (updK (fun t => rd p (X.getD t 0)) (List.replicate X.length 0) 0 j)[j]'(by rw [updK_len]; simpa using hjl) := ⟨_, rfl⟩
          rw [← hy] at hci
          obtain ⟨hcr, hzr, -⟩ := hci
          obtain ⟨x, hx⟩ : ∃ x, x = X[j] := ⟨_, rfl⟩
          rw [← hx] at hcc hux hup
          have j1 : (j : Int) < (X.length : Int) := by omega
          have HV := Lib.hid (And.intro hown (And.intro hb (And.intro hup hsi)))
          clear hown hb hup hx hy hjl hiS hsi
          go_wp2_with fail
          have k0 := fun q : NwAt wr => q.nw.hold hbx
          have k1 := fun q : NwAt wr => q.nw.hold hco
          have k2 := fun q : NwAt wr => q.nw.hold hcr
          have k3 := fun q : NwAt wr => q.nw.holdf hzr
          have k4 := fun q : NwAt wr => q.nw.hold hcc
          refine from_here ?_
          intro q
          refine wp_region_nwt 8 (by kernel_rfl) (by kernel_rfl) ?_
          simp only [List.take_succ_cons, List.take_zero, List.drop_succ_cons, List.drop_zero]
          repeat (go_big_quiet_step ((first | (go_at_call 56; exact nwAt_of (fReduce_u _ _ _)))))
          refine wpQuiet_nil ?_
          clear q
          rintro _ ⟨q, rfl⟩
          have m0 := k0 q
          have m2 := k2 q
          have m3 := k3 q
          clear k1 k2 k3 k4
          have hs := (HV.out.1.hold q.nw.b).setIn (by rw [HW.out.2.2.2.2.1]; omega) hr1 j (rd p x)
          rw [HV.out.2.2.1] at hs
          have hB2 := OwnM.wrote (Below.next (Nat.le_refl _) HV.out.2.1 q.nw.b) (Nat.le_succ _) (Nat.le_trans HV.out.2.1.size q.nw.b.size) (HV.out.1.hold q.nw.b) (i := i) (by rw [List.length_set, HW.out.2.2.2.2.1]; omega) hr1 hs.2
          have HSet := Lib.hid (And.intro hs.1 hB2)
          clear hs hB2
          go_wp2
          refine ⟨⟨j + 1, by go_num, by omega, HSet.out.1, ?_, HSet.out.2, ?_⟩, by simp [intOf]; omega⟩
          · rw [World.cell?_setCell_far _ _ _ _ (by show G ≠ w.heap.size; omega)]; exact m0
          · have h1 := HV.out.2.2.2
            have h2 := q.nw.b.size
            simp; omega
        · obtain rfl : j = X.length := by omega
          rw [redL_rd HM.out.2.2, HW.out.2.2.2.1] at hown
          have HF := Lib.hid (And.intro hown (And.intro hbx (And.intro hb hsi)))
          clear hown hbx hb hsi
          go_wp2
          exact ⟨⟨i + 1, rs1, by go_num, by omega, HF.out.1, HF.out.2.1, HF.out.2.2.1, HF.out.2.2.2, HE1.out⟩, by simp [intOf]; omega⟩
    · obtain rfl : i = M.length := by omega
      have HF := Lib.hid (And.intro hown (And.intro (show ∀ k (h : k < M.length), ∃ g, rs k = .slice (some ⟨g, 0, none⟩) M[k].length M[k].length from fun k h => hex k h h) (And.intro hsr hb)))
      clear hown hb hbx hsr hex
      go_wp2
      go_ret
      refine ⟨_, rs, rfl, ?_, HF.out.2⟩
      have h := HF.out.1
      rw [← redL_len p M, fillL_all, redL_len] at h
      exact h

/-- A row gets a multiple of another one added. -/
theorem addL_su {p : Int} (hk : known p = true) (y : Int) {R T : List Int} : updK (addL p (sb p 0 y) R T 0) R 0 T.length = suK p y R T T.length := by
  unfold suK
  refine List.ext_getElem (by rw [updK_len, updK_len]) fun i h1 h2 => ?_
  simp only [updK, List.getElem_map, List.getElem_range]
  split
  · unfold addL
    rw [Nat.sub_zero, ad_ival hk, ph_ml hk, ph_sb hk, ph_zero hk, sb_ival hk, ph_ml hk]
    congr 1; grind
  · rfl

set_option maxHeartbeats 4000000 in
theorem maddMul_w (p m : Int) [hm : U m] (base : Nat) (v va : Value) (L a : List Int) (w : World) (hown : Own w base v L) (hla : Lst w va a) (hoff : 0 < a.length → va.ownBlock ≠ v.ownBlock) (ho : a.length ≤ L.length) (hL : L.length ≤ 1000) :
    Calls Try.prog 74 #[.agg #[.int .u64 p], v, va, .int .u64 m] w fun e w' =>
      e = .returned (.tuple #[]) ∧ Own w' base v (updK (addL p m L a 0) L 0 a.length) ∧ w.grownBy w' v.ownBlock := by
  obtain ⟨a0, c0, rfl⟩ := hla.shape
  rcases hown.cases with ⟨rfl, rfl⟩ | ⟨g, cap, rfl, hgb, hgw, hlc, hcm⟩
  · have ha0 : a.length = 0 := by simpa using ho
    obtain rfl : a = [] := List.length_eq_zero_iff.1 ha0
    clear ha0
    go_enter Try.func74, Try.ntmps74
    go_wp2
    go_loopw [12] (fun iv wr => iv = .int .i64 0 ∧ wr = w.alloc (.cells #[.int .u64 p] 27)) (fun iv _ => 0)
    case atStart => exact ⟨rfl, rfl⟩
    case round =>
      obtain ⟨rfl, rfl⟩ := hrel
      go_wp2
      go_end0
      exact ⟨rfl, by rw [updK_zero]; exact Own.nil _ _, grown_below (Below.made (Nat.le_refl _) (Below.refl _ _) _)⟩
  · have HW := Lib.hid hown
    have HL := Lib.hid hla
    have HN := Lib.hid (And.intro hoff ho)
    clear hown hla hoff ho
    go_enter Try.func74, Try.ntmps74
    go_wp2
    go_loopw [12] (fun iv wr => ∃ k : Nat, iv = .int .i64 k ∧ k ≤ a.length ∧ wr.cell? ⟨w.heap.size, 0, none⟩ = some (.int .u64 p) ∧ Own wr base (.slice (some ⟨g, 0, none⟩) L.length cap) (updK (addL p m L a 0) L 0 k) ∧ w.grownBy wr (some g)) (fun iv _ => a.length - (intOf iv).toNat)
    case atStart => exact ⟨0, rfl, Nat.zero_le _, by go_simp, by rw [updK_zero]; exact HW.out.hold (Below.made (Nat.le_refl _) (Below.refl _ _) _), grown_below (Below.made (Nat.le_refl _) (Below.refl _ _) _)⟩
    case round =>
      obtain ⟨k, rfl, hk, hp, hown, hg⟩ := hrel
      by_cases hlt : k < a.length
      · have hok : k < L.length := by have := HN.out.2; omega
        have hc : wr.cell? ⟨g, k, none⟩ = some (.int .u64 L[k]) := by
          rw [hown.cell (by rw [updK_len]; exact hok), updK_at0 hok]
        have hz := hown.thawed k
        have hux := HW.out.us L[k] (List.getElem_mem hok)
        have hua := HL.out.us a[k] (List.getElem_mem hlt)
        obtain ⟨b, oa, ca, e, hca⟩ := (HL.out.kept hg HN.out.1).cells k hlt
        obtain ⟨rfl, rfl⟩ : a0 = some ⟨b, oa, none⟩ ∧ c0 = ca := by simp at e; exact e
        clear e
        have hset := updK_set0 (f := addL p m L a 0) (L := L) (k := k)
        have hval : addL p m L a 0 k = ad p L[k] (ml p a[k] m) := by
          unfold addL; rw [getD_lt _ hok, Nat.sub_zero, getD_lt _ hlt]
        rw [hval] at hset
        obtain ⟨x, hx⟩ : ∃ x, x = L[k] := ⟨_, rfl⟩
        obtain ⟨y, hy⟩ : ∃ y, y = a[k] := ⟨_, rfl⟩
        rw [← hx] at hux hc hset
        rw [← hy] at hua hca hset
        have i0 : (0 : Int) ≤ (k : Int) := by omega
        have i1 : (k : Int) < (a.length : Int) := by omega
        have i2 : (a.length : Int) ≤ 1000 := by have := HN.out.2; omega
        have i3 : (k : Int) < (L.length : Int) := by omega
        have HO := Lib.hid (And.intro hown (And.intro hg hset))
        clear hown hg hset hx hy hval
        go_wp2_with fail
        have k0 := fun q : NwAt wr => q.nw.hold hp
        have k1 := fun q : NwAt wr => q.nw.hold hc
        have k2 := fun q : NwAt wr => q.nw.hold hca
        have k3 := fun q : NwAt wr => q.nw.holdf hz
        refine from_here ?_
        intro q
        refine wp_region_nwt 12 (by kernel_rfl) (by kernel_rfl) ?_
        simp only [List.take_succ_cons, List.take_zero, List.drop_succ_cons, List.drop_zero]
        repeat (go_big_quiet_step ((first | (go_at_call 38; exact nwAt_of (fMul_u _ _ _ _)) | (go_at_call 97; exact nwAt_of (fAdd_u _ _ _ _)))))
        refine wpQuiet_nil ?_
        clear q
        rintro _ ⟨q, rfl⟩
        have j1 := k1 q
        have j3 := k3 q
        clear k1 k3
        go_wp2
        have hs := (HO.out.1.hold q.nw.b).set k (ad p x (ml p y m))
        refine ⟨⟨k + 1, by go_num, by omega, ?_, by rw [← HO.out.2.2]; exact hs.1, grown_trans (grown_next HO.out.2.1 q.nw.b) hs.2⟩, by simp [intOf]; omega⟩
        rw [World.cell?_setCell_far _ _ _ _ (by show g ≠ w.heap.size; omega)]
        exact k0 q
      · obtain rfl : k = a.length := by omega
        have HO := Lib.hid (And.intro hown hg)
        clear hown hg
        go_wp2
        go_end0
        exact ⟨rfl, HO.out.1, HO.out.2⟩

set_option maxHeartbeats 4000000 in
theorem mscale_w (p x : Int) [hx : U x] (base : Nat) (v : Value) (R : List Int) (w : World) (hown : Own w base v R) (hL : R.length ≤ 1000) :
    Calls Try.prog 101 #[.agg #[.int .u64 p], v, .int .u64 x] w fun e w' =>
      e = .returned (.tuple #[]) ∧ Own w' base v (scK p x R R.length) ∧ w.grownBy w' v.ownBlock := by
  rcases hown.cases with ⟨rfl, rfl⟩ | ⟨g, cap, rfl, hgb, hgw, hlc, hcm⟩
  · go_enter Try.func101, Try.ntmps101
    go_wp2
    go_loopw [9] (fun iv wr => iv = .int .i64 0 ∧ wr = w.alloc (.cells #[.int .u64 p] 27)) (fun iv _ => 0)
    case atStart => exact ⟨rfl, rfl⟩
    case round =>
      obtain ⟨rfl, rfl⟩ := hrel
      go_wp2
      go_end0
      exact ⟨rfl, by unfold scK; rw [updK_zero]; exact Own.nil _ _, grown_below (Below.made (Nat.le_refl _) (Below.refl _ _) _)⟩
  · have HW := Lib.hid hown
    clear hown
    go_enter Try.func101, Try.ntmps101
    go_wp2
    go_loopw [9] (fun iv wr => ∃ k : Nat, iv = .int .i64 k ∧ k ≤ R.length ∧ wr.cell? ⟨w.heap.size, 0, none⟩ = some (.int .u64 p) ∧ Own wr base (.slice (some ⟨g, 0, none⟩) R.length cap) (scK p x R k) ∧ w.grownBy wr (some g)) (fun iv _ => R.length - (intOf iv).toNat)
    case atStart => exact ⟨0, rfl, Nat.zero_le _, by go_simp, by unfold scK; rw [updK_zero]; exact HW.out.hold (Below.made (Nat.le_refl _) (Below.refl _ _) _), grown_below (Below.made (Nat.le_refl _) (Below.refl _ _) _)⟩
    case round =>
      obtain ⟨k, rfl, hk, hp, hown, hg⟩ := hrel
      by_cases hlt : k < R.length
      · have hc : wr.cell? ⟨g, k, none⟩ = some (.int .u64 R[k]) := by
          rw [hown.cell (by rw [scK_len]; exact hlt)]
          unfold scK
          rw [updK_at0 hlt]
        have hz := hown.thawed k
        have hux := HW.out.us R[k] (List.getElem_mem hlt)
        have hset : (scK p x R k).set k (ml p R[k] x) = scK p x R (k + 1) := by
          have h := updK_set0 (f := fun l => ml p (R.getD l 0) x) (L := R) (k := k)
          rw [getD_lt _ hlt] at h; exact h
        obtain ⟨y, hy⟩ : ∃ y, y = R[k] := ⟨_, rfl⟩
        rw [← hy] at hux hc hset
        have i0 : (0 : Int) ≤ (k : Int) := by omega
        have i1 : (k : Int) < (R.length : Int) := by omega
        have i2 : (R.length : Int) ≤ 1000 := by omega
        have HO := Lib.hid (And.intro hown (And.intro hg hset))
        clear hown hg hset hy
        go_wp2_with fail
        have k0 := fun q : NwAt wr => q.nw.hold hp
        have k1 := fun q : NwAt wr => q.nw.hold hc
        have k3 := fun q : NwAt wr => q.nw.holdf hz
        refine from_here ?_
        intro q
        refine wp_region_nwt 9 (by kernel_rfl) (by kernel_rfl) ?_
        simp only [List.take_succ_cons, List.take_zero, List.drop_succ_cons, List.drop_zero]
        repeat (go_big_quiet_step ((first | (go_at_call 38; exact nwAt_of (fMul_u _ _ _ _)))))
        refine wpQuiet_nil ?_
        clear q
        rintro _ ⟨q, rfl⟩
        have j1 := k1 q
        have j3 := k3 q
        clear k1 k3
        go_wp2
        have hs := (HO.out.1.hold q.nw.b).set k (ml p y x)
        refine ⟨⟨k + 1, by go_num, by omega, ?_, by rw [← HO.out.2.2]; exact hs.1, grown_trans (grown_next HO.out.2.1 q.nw.b) hs.2⟩, by simp [intOf]; omega⟩
        rw [World.cell?_setCell_far _ _ _ _ (by show g ≠ w.heap.size; omega)]
        exact k0 q
      · obtain rfl : k = R.length := by omega
        have HO := Lib.hid (And.intro hown hg)
        clear hown hg
        go_wp2
        go_end0
        exact ⟨rfl, HO.out.1, HO.out.2⟩

set_option maxHeartbeats 2000000 in
theorem mfirst_u (v : Value) (L : List (List Int)) (top j : Nat) (w : World) (hM : MatR w v L) (hn : L.length ≤ 1000) (ht : top ≤ L.length) (hr : ∀ i (h : i < L.length), j < L[i].length) (hj : j ≤ 1000) :
    Calls Try.prog 100 #[v, .int .i64 top, .int .i64 j] w fun e w' => ∃ k : Nat, e = .returned (.int .i64 k) ∧ top ≤ k ∧ k ≤ L.length ∧ (∀ i, top ≤ i → i < k → (L.getD i []).getD j 0 = 0) ∧ (k < L.length → (L.getD k []).getD j 0 ≠ 0) ∧ w' = w := by
  obtain ⟨a0, c0, rfl⟩ := hM.shape
  have HM := Lib.hid (And.intro hM hr)
  have i1 : (L.length : Int) ≤ 1000 := by omega
  have i2 : (j : Int) ≤ 1000 := by omega
  have i4 : (0 : Int) ≤ (j : Int) := by omega
  clear hM hr
  go_enter Try.func100, Try.ntmps100
  go_wp2
  go_loopw [1] (fun kv wr => ∃ k : Nat, kv = .int .i64 k ∧ top ≤ k ∧ k ≤ L.length ∧ (∀ i, top ≤ i → i < k → (L.getD i []).getD j 0 = 0) ∧ wr = w) (fun kv _ => L.length - (intOf kv).toNat)
  case atStart => exact ⟨top, rfl, Nat.le_refl _, ht, fun i h1 h2 => by omega, rfl⟩
  case round =>
    obtain ⟨k, rfl, hk1, hk2, hz, rfl⟩ := hrel
    have i0 : (0 : Int) ≤ (k : Int) := by omega
    by_cases hlt : k < L.length
    · obtain ⟨b, o, c, rv, e, hc, hl⟩ := HM.out.1.rows k hlt
      obtain ⟨rfl, rfl⟩ : a0 = some ⟨b, o, none⟩ ∧ c0 = c := by simp at e; exact e
      have hrk := HM.out.2 k hlt
      obtain ⟨b2, o2, c2, e2, hce⟩ := hl.cells j hrk
      rw [e2] at hc
      have hgd : (L.getD k []).getD j 0 = L[k][j] := by rw [getD_row hlt, getD_lt _ hrk]
      obtain ⟨x, hx⟩ : ∃ x, x = L[k][j] := ⟨_, rfl⟩
      rw [← hx] at hce hgd
      obtain ⟨n, hnn⟩ : ∃ n, n = L[k].length := ⟨_, rfl⟩
      rw [← hnn] at hc hrk
      have i5 : (k : Int) < (L.length : Int) := by omega
      have i6 : (j : Int) < (n : Int) := by omega
      by_cases hx0 : x = 0
      · have hxb : (x == 0) = true := by simpa using hx0
        have HZ := Lib.hid (And.intro hz (And.intro hgd hx0))
        clear hz hgd hx hl e e2 hx0 hnn
        go_wp2
        refine ⟨⟨k + 1, by go_num, by omega, by omega, fun i h1 h2 => ?_, by first | rfl | trivial⟩, by simp [intOf]; omega⟩
        rcases Nat.lt_succ_iff_lt_or_eq.1 h2 with e | e
        · exact HZ.out.1 i h1 e
        · subst e; rw [HZ.out.2.1]; exact HZ.out.2.2
      · have hxb : (x == 0) = false := by simpa using hx0
        have HZ := Lib.hid (And.intro hz (And.intro hgd hx0))
        clear hz hgd hx hl e e2 hx0 hnn
        go_wp2
        go_ret
        exact ⟨k, rfl, hk1, hk2, HZ.out.1, fun _ => by rw [HZ.out.2.1]; exact HZ.out.2.2, rfl⟩
    · obtain rfl : k = L.length := by omega
      have HZ := Lib.hid hz
      clear hz
      go_wp2
      go_ret
      exact ⟨_, rfl, hk1, hk2, HZ.out, fun h => absurd h (Nat.lt_irrefl _), rfl⟩
end Go.Proofs.Ytdcdaclkeocfpaa

namespace Go.Proofs.Ytdcdaclkeocfpaa.Po
variable {q : Nat} [NeZero q]

theorem det_elim {m a j : Nat} (S : Nat → Nat → Fin q) (v : Fin q) (ha : a < m) : ∀ r, r ≤ m → det m (elim S a j v r) = v * det m S
  | 0, _ => by rw [elim_zero]; exact det_scale ha v S
  | r + 1, hr => by
    by_cases e : r = a
    · subst e; rw [elim_at]; exact det_elim S v ha r (by omega)
    · rw [elim_succ S j v e, det_add (by omega) ha e]; exact det_elim S v ha r (by omega)
omit [NeZero q] in
theorem swap_self (a : Nat) (M : Nat → Nat → Fin q) : swap a a M = M := funext fun i => funext fun j => by
  unfold swap
  by_cases e : i = a
  · rw [if_pos e, e]
  · rw [if_neg e, if_neg e]
end Go.Proofs.Ytdcdaclkeocfpaa.Po

namespace Go.Proofs.Ytdcdaclkeocfpaa
open Go.RowKit Go.BigFrame
open Classical

/-- w' is w, but for the blocks in S and new ones. -/
structure Grew (S : Nat → Prop) (w w' : World) : Prop where
  os : w'.os = w.os
  tape : w'.tape = w.tape
  output : w'.output = w.output
  size : w.heap.size ≤ w'.heap.size
  block : ∀ i, i < w.heap.size → ¬ S i → w'.heap[i]? = w.heap[i]?
theorem Grew.refl (S : Nat → Prop) (w : World) : Grew S w w := ⟨rfl, rfl, rfl, Nat.le_refl _, fun _ _ _ => rfl⟩
theorem Grew.step {S : Nat → Prop} {w a b : World} {r : Option Nat} (h : Grew S w a) (k : a.grownBy b r) (hr : ∀ g, r = some g → S g ∨ w.heap.size ≤ g) : Grew S w b :=
  ⟨k.os.trans h.os, k.tape.trans h.tape, k.output.trans h.output, Nat.le_trans h.size k.size, fun i hi hs => (k.block i (Nat.lt_of_lt_of_le hi h.size) fun e => by
    rcases hr i (by first | exact e | exact e.symm) with e2 | e2
    · exact hs e2
    · omega).trans (h.block i hi hs)⟩
theorem Grew.next {S : Nat → Prop} {w a b : World} (h : Grew S w a) (k : Below a.heap.size a b) : Grew S w b := h.step (r := none) (grown_of_below k) fun g e => by cases e
theorem Grew.cell {S : Nat → Prop} {w w' : World} (h : Grew S w w') {a : Addr} {v : Value} (hc : w.cell? a = some v) (hs : ¬ S a.block) : w'.cell? a = some v :=
  (World.cell?_of_block (h.block _ (World.block_lt_of_cell? _ _ hc) hs)).trans hc
theorem Grew.below {S : Nat → Prop} {B : Nat} {w a b : World} (h : Below B w a) (k : Grew S a b) (hB : B ≤ a.heap.size) (hs : ∀ g, S g → B ≤ g) : Below B w b :=
  ⟨k.os.trans h.os, k.tape.trans h.tape, k.output.trans h.output, Nat.le_trans h.size k.size, fun i hi => (k.block i (by omega) fun e => by
    have := hs i e; omega).trans (h.block i hi)⟩
theorem OwnM.rows {w : World} {base : Nat} {v : Value} {rs : Nat → Value} {L : List (List Int)} (h : OwnM w base v rs L) {i : Nat} (hi : i < L.length) (hn : 0 < L[i].length) : ∃ g cp, rs i = .slice (some ⟨g, 0, none⟩) L[i].length cp := by
  rcases (h.row i hi).cases with ⟨_, e⟩ | ⟨g, cp, e, _⟩
  · rw [e] at hn; simp at hn
  · exact ⟨g, cp, e⟩

theorem OwI.grew {S : Nat → Prop} {w w' : World} {base : Nat} {v : Value} {l : List Nat} (h : OwI w base v l) (k : Grew S w w') (hs : ∀ g, v.ownBlock = some g → ¬ S g) : OwI w' base v l := by
  refine ⟨h.1, ?_⟩
  rcases h.2 with e | ⟨g, cap, cur, e, hb, hg, r⟩
  · exact .inl e
  · have e2 : v.ownBlock = some g := by rw [e]; rfl
    exact .inr ⟨g, cap, cur, e, hb, (k.block g (World.ownsRow.lt h g e2).2 (hs g e2)).trans hg, r⟩

/-- The rows' blocks. -/
def RowB (m : Nat) (rs : Nat → Value) (b : Nat) : Prop := ∃ i, i < m ∧ (rs i).ownBlock = some b

set_option maxRecDepth 100000 in
set_option maxHeartbeats 4000000 in
theorem mclear_w (p : Int) [_hpU : U p] (hk : known p = true) (base g0 cap0 : Nat) (rs : Nat → Value) (N0 S : List (List Int)) (m n a j : Nat) (x : Fin (Q p)) (w : World) (hm : OwnM w base (.slice (some ⟨g0, 0, none⟩) m cap0) rs N0) (hmt : Mt p m n N0) (ha : a < m) (hj : j < n) (hmf : mf p N0 = Po.elim (mf p S) a j x 0) (hm1 : m ≤ 100) (hn1 : n ≤ 200) :
    Calls Try.prog 102 #[.agg #[.int .u64 p], .slice (some ⟨g0, 0, none⟩) m cap0, .int .i64 a, .int .i64 j] w fun e w' => ∃ N, e = .returned (.tuple #[]) ∧ OwnM w' base (.slice (some ⟨g0, 0, none⟩) m cap0) rs N ∧ Mt p m n N ∧ mf p N = Po.elim (mf p S) a j x m ∧ Grew (RowB m rs) w w' := by
  have HM := Lib.hid (And.intro hm (And.intro hmt (And.intro hmf hk)))
  have i1 : (m : Int) ≤ 100 := by omega
  have i2 : (n : Int) ≤ 200 := by omega
  have i3 : (a : Int) < (m : Int) := by omega
  have i4 : (0 : Int) ≤ (a : Int) := by omega
  have i5 : (0 : Int) ≤ (j : Int) := by omega
  have i6 : (j : Int) < (n : Int) := by omega
  clear hm hmt hmf hk
  go_enter Try.func102, Try.ntmps102
  go_wp2
  go_loopw [12] (fun rv wx => ∃ (r : Nat) (N : List (List Int)), rv = .int .i64 r ∧ r ≤ m ∧ OwnM wx base (.slice (some ⟨g0, 0, none⟩) m cap0) rs N ∧ Mt p m n N ∧ mf p N = Po.elim (mf p S) a j x r ∧ Grew (RowB m rs) w wx ∧ wx.cell? ⟨w.heap.size, 0, none⟩ = some (.int .u64 p)) (fun rv _ => m - (intOf rv).toNat)
  case atStart =>
    have hb : Below w.heap.size w (w.alloc (.cells #[.int .u64 p] 27)) := Below.made (Nat.le_refl _) (Below.refl _ _) _
    exact ⟨0, N0, rfl, Nat.zero_le _, HM.out.1.hold hb, HM.out.2.1, HM.out.2.2.1, (Grew.refl _ _).next hb, by go_simp⟩
  case round =>
    obtain ⟨r, N, rfl, hr, hm, hmt, hmf, hg, hbx⟩ := hrel
    have r0 : (0 : Int) ≤ (r : Int) := by omega
    by_cases hrm : r < m
    · have hNl := hmt.len
      have hrN : r < N.length := by omega
      have haN : a < N.length := by omega
      have hRl := hmt.row r hrN
      have hAl := hmt.row a haN
      obtain ⟨gr, cr, hrr⟩ := hm.rows hrN (by omega)
      obtain ⟨ga, ca, hra⟩ := hm.rows haN (by omega)
      rw [hRl] at hrr
      rw [hAl] at hra
      have hco := hm.out hrN hrr
      have hca := hm.out haN hra
      have r1 : (r : Int) < (m : Int) := by omega
      by_cases hne : r = a
      · have r2 : ((r : Int) != (a : Int)) = false := by simp; omega
        have hmf1 : mf p N = Po.elim (mf p S) a j x (r + 1) := by rw [hmf, hne, Po.elim_at]
        have HN := Lib.hid (And.intro hm (And.intro hmt (And.intro hmf1 (And.intro hg hbx))))
        clear hm hmt hmf hmf1 hg hne
        go_wp2_with fail
        exact ⟨⟨r + 1, N, by go_num, by omega, HN.out.1, HN.out.2.1, HN.out.2.2.1, HN.out.2.2.2.1, HN.out.2.2.2.2⟩, by simp [intOf]; omega⟩
      · have r2 : ((r : Int) != (a : Int)) = true := by simp; omega
        have hmf1 := mf_clear HM.out.2.2.2 hmt haN hrN hne hmf
        have hjr : j < N[r].length := by omega
        obtain ⟨hce, -, hux⟩ := hm.cellIn hrN hrr rfl hjr
        have hgd : N[r].getD j 0 = N[r][j] := getD_lt _ hjr
        rw [hgd, hRl] at hmf1
        obtain ⟨y, hy⟩ : ∃ y, y = N[r][j] := ⟨_, rfl⟩
        rw [← hy] at hce hux hmf1
        have hoR := hm.row r hrN
        have hoA := (hm.row a haN).lst
        have hap := hm.apart a r haN hrN (Ne.symm hne)
        have hRd := hmt.red r hrN
        obtain ⟨R, hR⟩ : ∃ R, R = N[r] := ⟨_, rfl⟩
        obtain ⟨T, hT⟩ : ∃ T, T = N[a] := ⟨_, rfl⟩
        rw [← hR] at hmf1 hRl hoR hRd
        rw [← hT] at hmf1 hAl hoA
        rw [hrr] at hoR hap
        rw [hra] at hoA hap
        have hmt1 : Mt p m n (N.set r (suK p y R T n)) := hmt.set (by rw [suK_len]; exact hRl) (suK_rdc HM.out.2.2.2 _ _ _ hRd)
        have HN := Lib.hid (And.intro hm (And.intro hmt1 (And.intro hmf1 (And.intro hg (And.intro hoR (And.intro hoA (And.intro hap (And.intro hrN hrr))))))))
        have HL := Lib.hid (And.intro hRl hAl)
        clear hm hmt hmt1 hmf hmf1 hg hoR hoA hap hne hR hT hy hgd hjr hRd hrr hra hRl hAl
        go_wp2_with fail
        have k0 := fun q : NwAt wr => q.nw.hold hbx
        have k1 := fun q : NwAt wr => q.nw.hold hca
        have k2 := fun q : NwAt wr => q.nw.hold hce
        refine from_here ?_
        intro q
        refine wp_region_nwt 12 (by kernel_rfl) (by kernel_rfl) ?_
        simp only [List.take_succ_cons, List.take_zero, List.drop_succ_cons, List.drop_zero]
        repeat (go_big_quiet_step ((first | (go_at_call 68; exact nwAt_of (fNeg_u _ _ _)))))
        refine wpQuiet_nil ?_
        clear q
        rintro _ ⟨q, rfl⟩
        have m0 := k0 q
        clear k0 k1 k2
        go_wp2_with (go_at_call 74; refine (maddMul_w p (sb p 0 y) base _ _ R T _ (HN.out.2.2.2.2.1.hold q.nw.b) (HN.out.2.2.2.2.2.1.hold q.nw.b) (fun _ e => HN.out.2.2.2.2.2.2.1 ga rfl e.symm) (by rw [HL.out.1, HL.out.2]; exact Nat.le_refl _) (by rw [HL.out.1]; omega)).mono ?_; rintro _ w2 ⟨rfl, hown2, hg2⟩)
        have hT := hown2
        rw [addL_su HM.out.2.2.2, HL.out.2] at hT
        have hup := (HN.out.1.hold q.nw.b).upd HN.out.2.2.2.2.2.2.2.1 (r := suK p y R T n) (by rw [HN.out.2.2.2.2.2.2.2.2]; exact hT) (by rw [HN.out.2.2.2.2.2.2.2.2]; exact hg2)
        have hgr : Grew (RowB m rs) w w2 := (HN.out.2.2.2.1.next q.nw.b).step hg2 fun b e => .inl ⟨r, hrm, by rw [HN.out.2.2.2.2.2.2.2.2]; exact e⟩
        have hgw := ((HM.out.1.row r (by rw [HM.out.2.1.len]; exact hrm)).row.lt gr (by rw [HN.out.2.2.2.2.2.2.2.2]; rfl)).2
        have hbx2 := grown_cell hg2 m0 (by intro e; have e2 : w.heap.size = gr := by simpa [Value.ownBlock] using e
                                           omega)
        exact ⟨⟨r + 1, _, by go_num, by omega, hup, HN.out.2.1, HN.out.2.2.1, hgr, hbx2⟩, by simp [intOf]; omega⟩
    · obtain rfl : r = m := by omega
      have HN := Lib.hid (And.intro hm (And.intro hmt (And.intro hmf hg)))
      clear hm hmt hmf hg
      go_wp2
      go_end0
      exact ⟨N, rfl, HN.out.1, HN.out.2.1, HN.out.2.2.1, HN.out.2.2.2⟩
end Go.Proofs.Ytdcdaclkeocfpaa

namespace Go.Proofs.Ytdcdaclkeocfpaa
open Go.RowKit Go.BigFrame
open Classical

set_option maxRecDepth 100000 in
set_option maxHeartbeats 16000000 in
theorem meliminate_w (p : Int) [_hpU : U p] (hk : known p = true) (base : Nat) (v : Value) (rs : Nat → Value) (M : List (List Int)) (m n : Nat) (w : World) (hm : OwnM w base v rs M) (hmt : Mt p m n M) (hc : cols M = n) (hm1 : m ≤ 100) (hn1 : n ≤ 200) (hbase : base ≤ w.heap.size) :
    Calls Try.prog 63 #[.agg #[.int .u64 p], v] w fun e w' => ∃ vp rs' R c fac, e = .returned (.tuple #[vp, .int .u64 fac]) ∧ OwnM w' base v rs' R ∧ OwI w' w.heap.size vp c ∧ Elm p M n R c ∧ (0 ≤ fac ∧ fac < p) ∧ Po.det m (mf p M) = ph p fac * Po.det m (mf p R) ∧ Below base w w' := by
  have hpl := known_lo hk
  have hph := known_hi hk
  have hml := hmt.len
  have i1 : (m : Int) ≤ 100 := by omega
  have hb0 : Below base w (w.alloc (.cells #[.int .u64 p] 27)) := Below.made hbase (Below.refl _ _) _
  have HM := Lib.hid (And.intro hm (And.intro hmt (And.intro hk (And.intro hc (And.intro hml hb0)))))
  clear hm hmt hk hc hml hb0
  go_enter Try.func63, Try.ntmps63
  go_wp2_with (go_at_call 66; refine (mcolumns_u _ M _ (HM.out.1.matR.hold (Below.made (Nat.le_refl _) (Below.refl _ _) _)) (by have := HM.out.2.2.2.2.1; omega)).mono ?_; rintro e w1 ⟨rfl, rfl⟩; rw [HM.out.2.2.2.1])
  go_loopw [6, 7, 13] (fun cv fv jv wr => ∃ (j : Nat) (rs : Nat → Value) (L : List (List Int)) (c : List Nat) (fac : Int), jv = .int .i64 j ∧ fv = .int .u64 fac ∧ j ≤ n ∧ OwnM wr base v rs L ∧ OwI wr (w.heap.size + 1) cv c ∧ Mt p m n L ∧ Po.Part m j (mf p L) c ∧ Po.Ops m (mf p M) (mf p L) ∧ (0 ≤ fac ∧ fac < p) ∧ Po.det m (mf p M) = ph p fac * Po.det m (mf p L) ∧ (∀ i, i < m → ∀ g, (rs i).ownBlock = some g → g < w.heap.size) ∧ wr.cell? ⟨w.heap.size, 0, none⟩ = some (.int .u64 p) ∧ Below base w wr ∧ w.heap.size + 1 ≤ wr.heap.size) (fun _ _ jv _ => n - (intOf jv).toNat)
  case atStart =>
    refine ⟨0, rs, M, [], 1, rfl, rfl, Nat.zero_le _, HM.out.1.hold (Below.made (Nat.le_refl _) (Below.refl _ _) _), OwI.nil _ _, HM.out.2.1, Po.Part.zero _ _, .refl, by omega, by rw [ph_one HM.out.2.2.1]; grind, fun i hi g e => ((HM.out.1.row i (by rw [HM.out.2.2.2.2.1]; exact hi)).row.lt g e).2, by go_simp, HM.out.2.2.2.2.2, by simp⟩
  case round =>
    obtain ⟨j, rs, L, c, fac, rfl, rfl, hj, hm, hci, hmt, hpart, hops, hfr, hdet, hrs, hbx, hb, hsz⟩ := hrel
    have j0 : (0 : Int) ≤ (j : Int) := by omega
    by_cases hjn : j < n
    · have hLm := hmt.len
      have hm0 : 0 < m := by
        apply Classical.byContradiction
        intro h
        have h2 := HM.out.2.2.2.1
        have h3 : M = [] := List.length_eq_zero_iff.1 (by have := HM.out.2.2.2.2.1; omega)
        rw [h3] at h2
        simp [cols] at h2
        omega
      obtain ⟨g0, cap0, rfl⟩ : ∃ g cap, v = .slice (some ⟨g, 0, none⟩) m cap := by
        rcases hm.cases with ⟨_, e⟩ | ⟨g, cap, e, _⟩
        · rw [e] at hLm; simp at hLm; omega
        · rw [hLm] at e; exact ⟨g, cap, e⟩
      obtain ⟨pa, pc, rfl⟩ := hci.lst.shape
      have hcl := hpart.len
      have hfU : U fac := ⟨hfr.1, by omega⟩
      have hg0 : g0 < w.heap.size := (HM.out.1.outer.lt g0 rfl).2
      have i5 : (j : Int) < (n : Int) := by omega
      have i6 : (c.length : Int) ≤ (m : Int) := by omega
      have i7 : (0 : Int) ≤ (c.length : Int) := by omega
      have HW := Lib.hid (And.intro hm (And.intro hmt (And.intro hpart (And.intro hops (And.intro hci (And.intro hrs (And.intro hb (And.intro hsz (And.intro hdet (And.intro hfr hLm))))))))))
      clear hm hmt hpart hops hci hrs hb hsz hdet hfr hLm
      go_upto_region 8 with (go_at_call 100; refine (mfirst_u _ L c.length j _ HW.out.1.matR (by have := HW.out.2.1.len; omega) (by have := HW.out.2.1.len; omega) (fun i h => by rw [HW.out.2.1.row i h]; exact hjn) (by omega)).mono ?_; rintro _ w1 ⟨k, rfl, hk1, hk2, hz, hx, hw1⟩; obtain rfl : wr = w1 := hw1.symm)
      have k0' : (0 : Int) ≤ (k : Int) := by omega
      have hLm := HW.out.2.1.len
      by_cases hkm : k < m
      · have i8 : ((k : Int) == (m : Int)) = false := by simp; omega
        have hx0 : (L.getD k []).getD j 0 ≠ 0 := hx (by omega)
        have hkL : k < L.length := by omega
        have haL : c.length < L.length := by omega
        have hrowk := HW.out.2.1.row k hkL
        have hrowa := HW.out.2.1.row c.length haL
        obtain ⟨gk, capk, hrk⟩ := HW.out.1.rows hkL (by omega)
        rw [hrowk] at hrk
        obtain ⟨x, hxx⟩ : ∃ x, x = (L.getD k []).getD j 0 := ⟨_, rfl⟩
        rw [← hxx] at hx0
        clear hz hx hrowk
        by_cases hka : c.length < k
        · have i9 : ((c.length : Nat) : Int) < (k : Int) := by omega
          obtain ⟨ga, capa, hra⟩ := HW.out.1.rows haL (by omega)
          rw [hrowa] at hra
          have hco := HW.out.1.out hkL hrk
          have hca := HW.out.1.out haL hra
          have hza := HW.out.1.thawed c.length
          have hzk := HW.out.1.thawed k
          have hsw := HW.out.1.swap haL hkL
          rw [hrk, hra] at hsw
          have hcs : (wr.setCell ⟨g0, c.length, none⟩ (.slice (some ⟨gk, 0, none⟩) n capk)).cell? ⟨g0, k, none⟩ = some (.slice (some ⟨gk, 0, none⟩) n capk) := by
            rw [World.cell?_setCell_other _ _ _ _ (by intro h; have := congrArg Addr.off h; simp at this; omega)]; exact hco
          have HS := Lib.hid hsw
          have HR := Lib.hid (And.intro hra (And.intro hrk hxx))
          have i11 : ((c.length : Nat) : Int) < (m : Int) := by omega
          have i13 : (k : Int) < (m : Int) := by omega
          clear hsw hrowa hra hrk hxx
          go_wp2_with fail
          go_region
          go_upto_region 11 with fail
          refine name_world ?_
          intro W1 hW1
          have hBw : base ≤ g0 := (HW.out.1.outer.lt g0 rfl).1
          have hd : Below wr.heap.size wr wr.drew := Below.drew (Below.refl _ _)
          have hm1' := HS.out.1.hold (Below.drew (Below.refl _ _))
          have hg1 : wr.grownBy W1 (some g0) := by rw [hW1]; exact grown_next HS.out.2 (Below.drew (Below.refl _ _))
          rw [← hW1] at hm1'
          have hbx1 := grown_cell hg1 hbx (by intro e; have e2 : w.heap.size = g0 := by simpa using e
                                              omega)
          have hbl1 : Below base w W1 := HW.out.2.2.2.2.2.2.1.grown hg1 (Nat.le_trans hbase (Nat.le_trans (Nat.le_succ _) HW.out.2.2.2.2.2.2.2.1)) (fun b e => by cases e; exact hBw)
          have hc1 : OwI W1 (w.heap.size + 1) (.slice pa c.length pc) c := HW.out.2.2.2.2.1.kept hg1 (none_or fun b e e2 => by
            cases e
            have := (World.ownsRow.lt HW.out.2.2.2.2.1 _ e2).1
            omega)
          have hsz1 := Nat.le_trans HW.out.2.2.2.2.2.2.2.1 hg1.size
          obtain ⟨rs1, hrs1⟩ : ∃ f : Nat → Value, f = fun i => rs (if i = c.length then k else if i = k then c.length else i) := ⟨_, rfl⟩
          obtain ⟨S, hS⟩ : ∃ S, S = swapL L c.length k := ⟨_, rfl⟩
          rw [← hrs1, ← hS] at hm1'
          have hmtS : Mt p m n S := by rw [hS]; exact HW.out.2.1.swap haL hkL
          have hmfS : mf p S = Po.swap c.length k (mf p L) := by rw [hS]; exact mf_swap haL hkL
          have hAx : (S.getD c.length []).getD j 0 = x := by
            rw [HR.out.2.2, getD_row (by rw [hmtS.len]; omega)]
            subst hS
            rw [swapL_at, if_pos rfl]
          have hra1 : rs1 c.length = .slice (some ⟨gk, 0, none⟩) n capk := by rw [hrs1]; simp only [if_true]; exact HR.out.2.1
          have hrsS : ∀ i, i < m → ∀ g, (rs1 i).ownBlock = some g → g < w.heap.size := fun i hi g e => by
            rw [hrs1] at e
            exact HW.out.2.2.2.2.2.1 _ (by split <;> (try split) <;> omega) g e
          have hd1 : Po.det m (mf p M) = ph p (sb p 0 fac) * Po.det m (mf p S) := by
            rw [HW.out.2.2.2.2.2.2.2.2.1, hmfS, Po.det_swap (by omega) hkm (by omega), ph_sb HM.out.2.2.1, ph_zero HM.out.2.2.1]
            grind
          have HX := Lib.hid (And.intro hm1' (And.intro hbl1 (And.intro hc1 (And.intro hsz1 (And.intro hmtS (And.intro hmfS (And.intro hAx (And.intro hra1 (And.intro hrsS hd1)))))))))
          clear hW1 hd hm1' hg1 hbl1 hc1 hsz1 hmtS hmfS hAx hra1 hrsS hrs1 hS hcs hco hca hza hzk hd1
          go_upto_region 12 with (go_at_call 68; refine (fNeg_u p fac _).mono ?_; rintro _ W ⟨rfl, hbW⟩)
          obtain ⟨fac1, hf1⟩ : ∃ y, y = sb p 0 fac := ⟨_, rfl⟩
          have hfr : 0 ≤ fac1 ∧ fac1 < p := by rw [hf1]; exact sb_rng HM.out.2.2.1 _ _
          rw [← hf1] at HX ⊢
          have hmS := HX.out.1.hold hbW.b
          have hcS := HX.out.2.2.1.hold hbW.b
          have hmtS := HX.out.2.2.2.2.1
          have hmfS := HX.out.2.2.2.2.2.1
          have hdS := HX.out.2.2.2.2.2.2.2.2.2
          have hrsS := HX.out.2.2.2.2.2.2.2.2.1
          have hbS := Below.next hbase HX.out.2.1 hbW.b
          have hszS := Nat.le_trans HX.out.2.2.2.1 hbW.b.size
          have hAx := HX.out.2.2.2.2.2.2.1
          have hra := HX.out.2.2.2.2.2.2.2.1
          have hbxS := hbW.hold hbx1
          clear hbW hf1 hbx1 hbx HX HR HS
          have hfU1 : U fac1 := ⟨hfr.1, by omega⟩
          have haS : c.length < S.length := by rw [hmtS.len]; omega
          have hAl := hmtS.row c.length haS
          have hjA : j < S[c.length].length := by omega
          have hAj2 : S[c.length][j] = x := by rw [← getD_lt _ hjA, ← getD_row haS]; exact hAx
          have hci := hmS.cellIn haS hra rfl hjA
          rw [hAj2] at hci
          obtain ⟨hce, -, hux⟩ := hci
          have hco := hmS.out haS hra
          have hx1 : 0 ≤ x ∧ x < p := by rw [← hAj2]; exact hmtS.red c.length haS _ (List.getElem_mem hjA)
          have hxp : x % p ≠ 0 := by rw [Int.emod_eq_of_lt hx1.1 hx1.2]; exact hx0
          have hinv : ph p (iv p x) * ph p x = 1 := ph_iv HM.out.2.2.1 hx1.1 hxp
          have hSk : mf p S c.length j = ph p x := by unfold mf; rw [hAx]
          have hv : ph p (iv p x) * mf p L k j = 1 := by
            have e1 : mf p S c.length j = mf p L k j := by rw [hmfS]; unfold Po.swap; rw [if_pos rfl]
            rw [← e1, hSk]; exact hinv
          have hoA := hmS.row c.length haS
          obtain ⟨A, hA⟩ : ∃ A, A = S[c.length] := ⟨_, rfl⟩
          rw [← hA] at hoA hAl
          rw [hra] at hoA
          have hmt0 : Mt p m n (S.set c.length (scK p (iv p x) A A.length)) := hmtS.set (by rw [scK_len]; exact hAl) (scK_rdc HM.out.2.2.1 _ _ (by rw [hA]; exact hmtS.red c.length haS))
          have hmf0 : mf p (S.set c.length (scK p (iv p x) A A.length)) = Po.elim (mf p S) c.length j (ph p (iv p x)) 0 := by
            have h := mf_scale HM.out.2.2.1 haS j (iv p x)
            rw [← hA] at h; exact h
          have hpa := HW.out.2.2.1.pivot (by omega) hkm hv
          have hop := HW.out.2.2.2.1.trans ((Po.swap_ops (mf p L) (show c.length < m by omega) hkm).trans (Po.elim_ops (a := c.length) (j := j) (show c.length < m by omega) hv m (Nat.le_refl _)))
          rw [← hmfS] at hpa hop
          have hdet : Po.det m (mf p M) = ph p (ml p fac1 x) * Po.det m (Po.elim (mf p S) c.length j (ph p (iv p x)) m) := by
            rw [Po.det_elim _ _ (show c.length < m by omega) _ (Nat.le_refl _), ph_ml HM.out.2.2.1, hdS]
            have e : ∀ a b c d : Fin (Q p), c * b = 1 → a * d = a * b * (c * d) := fun a b c d h => by
              have : a * b * (c * d) = a * (c * b) * d := by grind
              rw [this, h]; grind
            exact e _ _ _ _ hinv
          have HP := Lib.hid (And.intro hpa (And.intro hop hdet))
          have HS2 := Lib.hid (And.intro hmS (And.intro hcS (And.intro hrsS (And.intro hbS (And.intro hszS (And.intro hra haS))))))
          have HT := Lib.hid (And.intro hmt0 (And.intro hmf0 (And.intro hoA (And.intro hAl (ml_rng HM.out.2.2.1 fac1 x)))))
          have hgk : gk < w.heap.size := hrsS c.length (by omega) gk (by rw [hra]; rfl)
          have k0 := fun q : NwAt W => q.nw.hold hbxS
          have k1 := fun q : NwAt W => q.nw.hold hco
          have k2 := fun q : NwAt W => q.nw.hold hce
          clear hpa hop hdet hmS hcS hrsS hbS hszS hra haS hmt0 hmf0 hoA hA hAx hAj2 hSk hv hinv hx1 hxp hdS hfr hmfS hmtS hjA hAl hbxS hco hce
          refine from_here ?_
          intro q
          refine wp_region_nw (by kernel_rfl) (by kernel_rfl) ?_
          repeat (go_big_quiet_step ((first | (go_at_call 38; exact nwAt_of (fMul_u _ _ _ _)))))
          refine wpQuiet_nil ?_
          clear q
          rintro _ ⟨q, rfl⟩
          go_wp2_with fail
          refine wp_region_nwt 14 (by kernel_rfl) (by kernel_rfl) ?_
          simp only [List.take_succ_cons, List.take_zero, List.drop_succ_cons, List.drop_zero]
          repeat (go_big_quiet_step ((first | (go_at_call 87; exact nwAt_of (fInv_u _ _ _)))))
          refine wpQuiet_nil ?_
          clear q
          rintro _ ⟨q, rfl⟩
          have m0 := k0 q
          have m1 := k1 q
          clear k0 k1 k2
          go_wp2_with (first
            | (go_at_call 101; refine (mscale_w p (iv p x) base _ A _ (HT.out.2.2.1.hold q.nw.b) (by rw [HT.out.2.2.2.1]; omega)).mono ?_; rintro _ w3 ⟨rfl, hown3, hg3⟩; have hbx3 := grown_cell hg3 m0 (by intro e; have e2 : w.heap.size = gk := by simpa [Value.ownBlock] using e
                                                                                                                                                                                                             omega))
            | (go_at_call 102; refine (mclear_w p HM.out.2.2.1 base g0 cap0 rs1 (S.set c.length (scK p (iv p x) A A.length)) S m n c.length j (ph p (iv p x)) _ ((HS2.out.1.hold q.nw.b).upd HS2.out.2.2.2.2.2.2 (by rw [HS2.out.2.2.2.2.2.1]; exact hown3) (by rw [HS2.out.2.2.2.2.2.1]; exact hg3)) HT.out.1 (by omega) hjn HT.out.2.1 hm1 hn1).mono ?_; rintro _ w4 ⟨N, rfl, hmN, hmtN, hmfN, hgN⟩
               have hbx4 := hgN.cell hbx3 (by rintro ⟨i, hi, e⟩; have := HS2.out.2.2.1 i hi _ e; simp at this)
               have hc3 : OwI w3 (w.heap.size + 1) (.slice pa c.length pc) c := (HS2.out.2.1.hold q.nw.b).kept hg3 (none_or fun b e e2 => by
                 have e3 : gk = b := by simpa [Value.ownBlock] using e
                 have := (World.ownsRow.lt HS2.out.2.1 _ e2).1
                 omega)
               have hc4 := hc3.grew hgN fun b e => (by rintro ⟨i, hi, e2⟩; have h1 := HS2.out.2.2.1 i hi _ e2; have h2 := (World.ownsRow.lt HS2.out.2.1 _ e).1; omega)
               have hb3 : Below base w w3 := (Below.next hbase HS2.out.2.2.2.1 q.nw.b).grown hg3 (Nat.le_trans hbase (Nat.le_trans (Nat.le_succ _) (Nat.le_trans HS2.out.2.2.2.2.1 q.nw.b.size))) (fun b e => by
                 have h1 := ((HS2.out.1.row c.length HS2.out.2.2.2.2.2.2).row.lt b (by rw [HS2.out.2.2.2.2.2.1]; exact e)).1
                 exact h1)
               have hsz4 := Nat.le_trans HS2.out.2.2.2.2.1 (Nat.le_trans q.nw.b.size (Nat.le_trans hg3.size hgN.size))
               have hb4 : Below base w w4 := Grew.below hb3 hgN (Nat.le_trans hbase (Nat.le_trans (Nat.le_succ _) (Nat.le_trans HS2.out.2.2.2.2.1 (Nat.le_trans q.nw.b.size hg3.size)))) (fun g hg => by
                 obtain ⟨i, hi, e⟩ := hg
                 exact ((HS2.out.1.row i (by rw [← HT.out.1.len, List.length_set] at hi; exact hi)).row.lt g e).1)
               have HY := Lib.hid (And.intro hmN (And.intro hmtN (And.intro hmfN (And.intro hc4 (And.intro hb4 hsz4)))))
               clear hmN hmtN hmfN hc4 hb4 hsz4 hgN hc3 hb3 hown3 hg3)
            | (at_builtin; refine append_int rfl (.tmp 76) (.tmp 78) rfl (w.heap.size + 1) (.slice pa c.length pc) c rfl HY.out.2.2.2.1 j rfl (by omega) HY.out.2.2.2.2.2 ?_; intro g2 c2 w5 hown5 hg5 hgr5))
          have hvb : ∀ b, (Value.slice pa c.length pc).ownBlock = some b → w.heap.size + 1 ≤ b := fun b e => (World.ownsRow.lt HY.out.2.2.2.1 b e).1
          have hm5 := HY.out.1.kept hgr5 (fun b e e2 => by
            have h1 := hvb b e
            have h2 : g0 = b := by simpa [Value.ownBlock] using e2
            omega) (fun i hi b e e2 => by
            have h1 := hvb b e
            have h2 := HS2.out.2.2.1 i (by rw [← HY.out.2.1.len]; exact hi) b e2
            omega)
          have hbx5 := grown_cell hgr5 hbx4 (fun e => by
            have h1 : w.heap.size + 1 ≤ w.heap.size := hvb _ e.symm
            omega)
          have hb5 := HY.out.2.2.2.2.1.grown hgr5 (Nat.le_trans hbase (Nat.le_trans (Nat.le_succ _) HY.out.2.2.2.2.2)) (fun b e => by have h1 := hvb b e; omega)
          exact ⟨⟨j + 1, rs1, N, c ++ [j], ml p fac1 x, by go_num, rfl, by omega, hm5, hown5, HY.out.2.1, by rw [HY.out.2.2.1]; exact HP.out.1, by rw [HY.out.2.2.1]; exact HP.out.2.1, HT.out.2.2.2.2, by rw [HY.out.2.2.1]; exact HP.out.2.2, HS2.out.2.2.1, hbx5, hb5, Nat.le_trans HY.out.2.2.2.2.2 hgr5.size⟩, by simp [intOf]; omega⟩
        · have hka2 : k = c.length := by omega
          subst hka2
          have i9 : ¬ ((c.length : Nat) : Int) < (c.length : Int) := by omega
          have i9b : decide (((c.length : Nat) : Int) < (c.length : Int)) = false := by simp
          have i11 : ((c.length : Nat) : Int) < (m : Int) := by omega
          go_upto_region 12 with fail
          obtain ⟨fac1, hf1⟩ : ∃ y, y = fac := ⟨_, rfl⟩
          have hra := hrk
          have hfr : 0 ≤ fac1 ∧ fac1 < p := by rw [hf1]; exact HW.out.2.2.2.2.2.2.2.2.2.1
          have hdS := HW.out.2.2.2.2.2.2.2.2.1
          rw [← hf1] at hdS ⊢
          obtain ⟨rs1, hrs1⟩ : ∃ f : Nat → Value, f = rs := ⟨_, rfl⟩
          obtain ⟨S, hS⟩ : ∃ S, S = L := ⟨_, rfl⟩
          have hmS := HW.out.1
          have hcS := HW.out.2.2.2.2.1
          have hmtS := HW.out.2.1
          have hmfS : mf p S = Po.swap c.length c.length (mf p L) := by rw [Po.swap_self, hS]
          have hrsS := HW.out.2.2.2.2.2.1
          have hbS := HW.out.2.2.2.2.2.2.1
          have hszS := HW.out.2.2.2.2.2.2.2.1
          have hAx : (S.getD c.length []).getD j 0 = x := by rw [hS, hxx]
          have hbxS := hbx
          rw [← hS, ← hrs1] at hmS
          rw [← hS] at hmtS hdS
          rw [← hrs1] at hrsS hra
          clear hf1 hS hrs1 hrk hxx hrowa hbx
          have hfU1 : U fac1 := ⟨hfr.1, by omega⟩
          have haS : c.length < S.length := by rw [hmtS.len]; omega
          have hAl := hmtS.row c.length haS
          have hjA : j < S[c.length].length := by omega
          have hAj2 : S[c.length][j] = x := by rw [← getD_lt _ hjA, ← getD_row haS]; exact hAx
          have hci := hmS.cellIn haS hra rfl hjA
          rw [hAj2] at hci
          obtain ⟨hce, -, hux⟩ := hci
          have hco := hmS.out haS hra
          have hx1 : 0 ≤ x ∧ x < p := by rw [← hAj2]; exact hmtS.red c.length haS _ (List.getElem_mem hjA)
          have hxp : x % p ≠ 0 := by rw [Int.emod_eq_of_lt hx1.1 hx1.2]; exact hx0
          have hinv : ph p (iv p x) * ph p x = 1 := ph_iv HM.out.2.2.1 hx1.1 hxp
          have hSk : mf p S c.length j = ph p x := by unfold mf; rw [hAx]
          have hv : ph p (iv p x) * mf p L c.length j = 1 := by
            have e1 : mf p S c.length j = mf p L c.length j := by rw [hmfS]; unfold Po.swap; rw [if_pos rfl]
            rw [← e1, hSk]; exact hinv
          have hoA := hmS.row c.length haS
          obtain ⟨A, hA⟩ : ∃ A, A = S[c.length] := ⟨_, rfl⟩
          rw [← hA] at hoA hAl
          rw [hra] at hoA
          have hmt0 : Mt p m n (S.set c.length (scK p (iv p x) A A.length)) := hmtS.set (by rw [scK_len]; exact hAl) (scK_rdc HM.out.2.2.1 _ _ (by rw [hA]; exact hmtS.red c.length haS))
          have hmf0 : mf p (S.set c.length (scK p (iv p x) A A.length)) = Po.elim (mf p S) c.length j (ph p (iv p x)) 0 := by
            have h := mf_scale HM.out.2.2.1 haS j (iv p x)
            rw [← hA] at h; exact h
          have hpa := HW.out.2.2.1.pivot (by omega) hkm hv
          have hop := HW.out.2.2.2.1.trans ((Po.swap_ops (mf p L) (show c.length < m by omega) hkm).trans (Po.elim_ops (a := c.length) (j := j) (show c.length < m by omega) hv m (Nat.le_refl _)))
          rw [← hmfS] at hpa hop
          have hdet : Po.det m (mf p M) = ph p (ml p fac1 x) * Po.det m (Po.elim (mf p S) c.length j (ph p (iv p x)) m) := by
            rw [Po.det_elim _ _ (show c.length < m by omega) _ (Nat.le_refl _), ph_ml HM.out.2.2.1, hdS]
            have e : ∀ a b c d : Fin (Q p), c * b = 1 → a * d = a * b * (c * d) := fun a b c d h => by
              have : a * b * (c * d) = a * (c * b) * d := by grind
              rw [this, h]; grind
            exact e _ _ _ _ hinv
          have HP := Lib.hid (And.intro hpa (And.intro hop hdet))
          have HS2 := Lib.hid (And.intro hmS (And.intro hcS (And.intro hrsS (And.intro hbS (And.intro hszS (And.intro hra haS))))))
          have HT := Lib.hid (And.intro hmt0 (And.intro hmf0 (And.intro hoA (And.intro hAl (ml_rng HM.out.2.2.1 fac1 x)))))
          have hgk : gk < w.heap.size := hrsS c.length (by omega) gk (by rw [hra]; rfl)
          have k0 := fun q : NwAt wr => q.nw.hold hbxS
          have k1 := fun q : NwAt wr => q.nw.hold hco
          have k2 := fun q : NwAt wr => q.nw.hold hce
          clear hpa hop hdet hmS hcS hrsS hbS hszS hra haS hmt0 hmf0 hoA hA hAx hAj2 hSk hv hinv hx1 hxp hdS hfr hmfS hmtS hjA hAl hbxS hco hce
          refine from_here ?_
          intro q
          refine wp_region_nw (by kernel_rfl) (by kernel_rfl) ?_
          repeat (go_big_quiet_step ((first | (go_at_call 38; exact nwAt_of (fMul_u _ _ _ _)))))
          refine wpQuiet_nil ?_
          clear q
          rintro _ ⟨q, rfl⟩
          go_wp2_with fail
          refine wp_region_nwt 14 (by kernel_rfl) (by kernel_rfl) ?_
          simp only [List.take_succ_cons, List.take_zero, List.drop_succ_cons, List.drop_zero]
          repeat (go_big_quiet_step ((first | (go_at_call 87; exact nwAt_of (fInv_u _ _ _)))))
          refine wpQuiet_nil ?_
          clear q
          rintro _ ⟨q, rfl⟩
          have m0 := k0 q
          have m1 := k1 q
          clear k0 k1 k2
          go_wp2_with (first
            | (go_at_call 101; refine (mscale_w p (iv p x) base _ A _ (HT.out.2.2.1.hold q.nw.b) (by rw [HT.out.2.2.2.1]; omega)).mono ?_; rintro _ w3 ⟨rfl, hown3, hg3⟩; have hbx3 := grown_cell hg3 m0 (by intro e; have e2 : w.heap.size = gk := by simpa [Value.ownBlock] using e
                                                                                                                                                                                                             omega))
            | (go_at_call 102; refine (mclear_w p HM.out.2.2.1 base g0 cap0 rs1 (S.set c.length (scK p (iv p x) A A.length)) S m n c.length j (ph p (iv p x)) _ ((HS2.out.1.hold q.nw.b).upd HS2.out.2.2.2.2.2.2 (by rw [HS2.out.2.2.2.2.2.1]; exact hown3) (by rw [HS2.out.2.2.2.2.2.1]; exact hg3)) HT.out.1 (by omega) hjn HT.out.2.1 hm1 hn1).mono ?_; rintro _ w4 ⟨N, rfl, hmN, hmtN, hmfN, hgN⟩
               have hbx4 := hgN.cell hbx3 (by rintro ⟨i, hi, e⟩; have := HS2.out.2.2.1 i hi _ e; simp at this)
               have hc3 : OwI w3 (w.heap.size + 1) (.slice pa c.length pc) c := (HS2.out.2.1.hold q.nw.b).kept hg3 (none_or fun b e e2 => by
                 have e3 : gk = b := by simpa [Value.ownBlock] using e
                 have := (World.ownsRow.lt HS2.out.2.1 _ e2).1
                 omega)
               have hc4 := hc3.grew hgN fun b e => (by rintro ⟨i, hi, e2⟩; have h1 := HS2.out.2.2.1 i hi _ e2; have h2 := (World.ownsRow.lt HS2.out.2.1 _ e).1; omega)
               have hb3 : Below base w w3 := (Below.next hbase HS2.out.2.2.2.1 q.nw.b).grown hg3 (Nat.le_trans hbase (Nat.le_trans (Nat.le_succ _) (Nat.le_trans HS2.out.2.2.2.2.1 q.nw.b.size))) (fun b e => by
                 have h1 := ((HS2.out.1.row c.length HS2.out.2.2.2.2.2.2).row.lt b (by rw [HS2.out.2.2.2.2.2.1]; exact e)).1
                 exact h1)
               have hsz4 := Nat.le_trans HS2.out.2.2.2.2.1 (Nat.le_trans q.nw.b.size (Nat.le_trans hg3.size hgN.size))
               have hb4 : Below base w w4 := Grew.below hb3 hgN (Nat.le_trans hbase (Nat.le_trans (Nat.le_succ _) (Nat.le_trans HS2.out.2.2.2.2.1 (Nat.le_trans q.nw.b.size hg3.size)))) (fun g hg => by
                 obtain ⟨i, hi, e⟩ := hg
                 exact ((HS2.out.1.row i (by rw [← HT.out.1.len, List.length_set] at hi; exact hi)).row.lt g e).1)
               have HY := Lib.hid (And.intro hmN (And.intro hmtN (And.intro hmfN (And.intro hc4 (And.intro hb4 hsz4)))))
               clear hmN hmtN hmfN hc4 hb4 hsz4 hgN hc3 hb3 hown3 hg3)
            | (at_builtin; refine append_int rfl (.tmp 76) (.tmp 78) rfl (w.heap.size + 1) (.slice pa c.length pc) c rfl HY.out.2.2.2.1 j rfl (by omega) HY.out.2.2.2.2.2 ?_; intro g2 c2 w5 hown5 hg5 hgr5))
          have hvb : ∀ b, (Value.slice pa c.length pc).ownBlock = some b → w.heap.size + 1 ≤ b := fun b e => (World.ownsRow.lt HY.out.2.2.2.1 b e).1
          have hm5 := HY.out.1.kept hgr5 (fun b e e2 => by
            have h1 := hvb b e
            have h2 : g0 = b := by simpa [Value.ownBlock] using e2
            omega) (fun i hi b e e2 => by
            have h1 := hvb b e
            have h2 := HS2.out.2.2.1 i (by rw [← HY.out.2.1.len]; exact hi) b e2
            omega)
          have hbx5 := grown_cell hgr5 hbx4 (fun e => by
            have h1 : w.heap.size + 1 ≤ w.heap.size := hvb _ e.symm
            omega)
          have hb5 := HY.out.2.2.2.2.1.grown hgr5 (Nat.le_trans hbase (Nat.le_trans (Nat.le_succ _) HY.out.2.2.2.2.2)) (fun b e => by have h1 := hvb b e; omega)
          exact ⟨⟨j + 1, rs1, N, c ++ [j], ml p fac1 x, by go_num, rfl, by omega, hm5, hown5, HY.out.2.1, by rw [HY.out.2.2.1]; exact HP.out.1, by rw [HY.out.2.2.1]; exact HP.out.2.1, HT.out.2.2.2.2, by rw [HY.out.2.2.1]; exact HP.out.2.2, HS2.out.2.2.1, hbx5, hb5, Nat.le_trans HY.out.2.2.2.2.2 hgr5.size⟩, by simp [intOf]; omega⟩
      · obtain rfl : k = m := by omega
        have i8 : ((k : Int) == (k : Int)) = true := by simp
        have hsk := HW.out.2.2.1.skip (fun i h1 h2 => by
          have := hz i h1 h2
          unfold mf; rw [this, ph_zero HM.out.2.2.1])
        have HS := Lib.hid hsk
        clear hsk hz hx
        go_wp2
        exact ⟨⟨j + 1, rs, L, c, fac, by go_num, rfl, by omega, HW.out.1, HW.out.2.2.2.2.1, HW.out.2.1, HS.out, HW.out.2.2.2.1, HW.out.2.2.2.2.2.2.2.2.2.1, HW.out.2.2.2.2.2.2.2.2.1, HW.out.2.2.2.2.2.1, hbx, HW.out.2.2.2.2.2.2.1, HW.out.2.2.2.2.2.2.2.1⟩, by simp [intOf]; omega⟩
    · obtain rfl : j = n := by omega
      have HW := Lib.hid (And.intro hm (And.intro hmt (And.intro hpart (And.intro hops (And.intro hci (And.intro hb (And.intro hdet hfr)))))))
      clear hm hmt hpart hops hci hrs hb hdet hfr
      go_wp2
      refine bodyPost_ret (results_tmp2 rfl _ _ _) rfl ?_
      have hml := HM.out.2.2.2.2.1
      subst hml
      exact ⟨_, rs, L, c, fac, rfl, HW.out.1, OwI.low HW.out.2.2.2.2.1 (Nat.le_succ _), ⟨HW.out.2.1, HW.out.2.2.1, HW.out.2.2.2.1⟩, HW.out.2.2.2.2.2.2.2, HW.out.2.2.2.2.2.2.1, HW.out.2.2.2.2.2.1⟩
end Go.Proofs.Ytdcdaclkeocfpaa

namespace Go.Proofs.Ytdcdaclkeocfpaa
open Go.RowKit Go.BigFrame
open Classical

theorem cols_redL (p : Int) (M : List (List Int)) : cols (redL p M) = cols M := by
  by_cases h : 0 < M.length
  · rw [cols_at h, cols_at (by rw [redL_len]; exact h), redL_at]; simp
  · have : M = [] := List.length_eq_zero_iff.1 (by omega)
    subst this; rfl
theorem Elm.of_red {p : Int} (hk : known p = true) {M R : List (List Int)} {n : Nat} {c : List Nat} (h : Elm p (redL p M) n R c) : Elm p M n R c := by
  obtain ⟨h1, h2, h3⟩ := h
  rw [redL_len] at h1 h2 h3
  rw [mf_redL hk] at h3
  exact ⟨h1, h2, h3⟩
theorem OkM.mt {p : Int} {M : List (List Int)} (h : OkM p M) : Mt p M.length (cols M) (redL p M) := Mt.redL h.1 fun i hi => (h.2.1 i hi).1
/-- What the determinant of a reduced form is. -/
theorem det_of {p : Int} {M R : List (List Int)} {c : List Nat} {m : Nat} {fac : Int} (hk : known p = true) (hp : Po.Part m m (mf p R) c) (hf : 0 ≤ fac ∧ fac < p) (hd : Po.det m (mf p M) = ph p fac * Po.det m (mf p R)) :
    ival p (Po.det m (mf p M)) = if c.length < m then 0 else fac := by
  have hl := hp.len
  by_cases h : c.length < m
  · rw [if_pos h, hd, Po.det_zero_row (r := m - 1) (by omega) _ (fun j hj => hp.rest (m - 1) (by omega) (by omega) j hj)]
    rw [show ph p fac * 0 = 0 by grind, ival_z hk]
  · rw [if_neg h, hd, Po.det_congr m (Po.full_one hp (by omega)), Po.det_one]
    rw [show ph p fac * 1 = ph p fac by grind]
    exact (rng_ival hk hf).symm

set_option maxHeartbeats 2000000 in
theorem mReduce_o (p : Int) [hpU : U p] (v : Value) (M : List (List Int)) (w : World) (hM : MatR w v M) (hn : M.length ≤ 100) (hr : ∀ i (h : i < M.length), M[i].length ≤ 100) :
    Calls Try.prog 18 #[.agg #[.int .u64 p], v] w fun e w' => ∃ v1 v2 rs R c, e = .returned (.tuple #[v1, v2]) ∧ OwnM w' w.heap.size v1 rs R ∧ OwI w' w.heap.size v2 c ∧ RedOf p M R c ∧ Below w.heap.size w w' := by
  have HM := Lib.hid (And.intro hM hr)
  clear hM hr
  have hb0 : Below w.heap.size w (w.alloc (.cells #[.int .u64 p] 27)) := Below.made (Nat.le_refl _) (Below.refl _ _) _
  have hf0 : (w.alloc (.cells #[.int .u64 p] 27)).cell? ⟨w.heap.size, 0, none⟩ = some (.int .u64 p) := by go_simp
  have HB := Lib.hid (And.intro hb0 hf0)
  clear hb0 hf0
  by_cases hok : OkM p M
  · have hd : decide (OkM p M) = true := decide_eq_true hok
    have HK := Lib.hid (And.intro hd hok)
    have h64 := hok.2.2
    have hc64 := hok.2.cols
    clear hd hok
    go_enter Try.func18, Try.ntmps18
    go_wp2_with (first
      | (go_at_call 61; refine (musable_u p _ M _ (HM.out.1.hold HB.out.1) (by omega) (fun i h => Nat.le_trans (HM.out.2 i h) (by decide))).mono ?_; rintro _ w1 ⟨rfl, hb1⟩; rw [HK.out.1]
         have hb1' := Below.next (Nat.le_refl _) HB.out.1 hb1.b
         have hf1 := hb1.hold HB.out.2)
      | (go_at_call 62; refine (mcopyOf_w p HK.out.2.1 _ M _ (HM.out.1.hold hb1') hn HM.out.2).mono ?_; rintro _ w2 ⟨v2, rs2, rfl, hm2, -, hsz2, hb2⟩
         have hb2' := Below.next (Nat.le_refl _) hb1' hb2
         have hf2 := Below.hold hb2 hf1)
      | (go_at_call 63; refine (meliminate_w p HK.out.2.1 (w1.heap.size + 1) _ rs2 (redL p M) M.length (cols M) _ hm2 HK.out.2.mt (cols_redL p M) (by omega) (by omega) hsz2).mono ?_; rintro _ w3 ⟨vp, rs3, R, c, fac, rfl, hm3, hc3, helm, -, -, hb3⟩))
    refine bodyPost_ret (results_tmp2 rfl _ _ _) rfl ?_
    have hs1 := hb1'.size
    have hb3' : Below w.heap.size w w3 := hb2'.trans (hb3.mono (by omega))
    exact ⟨_, _, rs3, R, c, rfl, hm3.low (by omega), OwI.low hc3 hb2'.size, ⟨fun _ => (helm.of_red HK.out.2.1).rrf, fun h => absurd HK.out.2 h⟩, hb3'⟩
  · have hd : decide (OkM p M) = false := decide_eq_false hok
    have HK := Lib.hid (And.intro hd hok)
    clear hd hok
    go_enter Try.func18, Try.ntmps18
    go_wp2_with (go_at_call 61; refine (musable_u p _ M _ (HM.out.1.hold HB.out.1) (by omega) (fun i h => Nat.le_trans (HM.out.2 i h) (by decide))).mono ?_; rintro _ w1 ⟨rfl, hb1⟩; rw [HK.out.1])
    refine bodyPost_ret (results_tmp2 rfl _ _ _) rfl ?_
    exact ⟨_, _, fun _ => undef, [], [], rfl, OwnM.nil _ _ _, OwI.nil _ _, ⟨fun h => absurd h HK.out.2, fun _ => ⟨rfl, rfl⟩⟩, Below.next (Nat.le_refl _) HB.out.1 hb1.b⟩

theorem mReduce_p (p : Int) [hpU : U p] (v : Value) (M : List (List Int)) (w : World) (hM : MatR w v M) (hn : M.length ≤ 100) (hr : ∀ i (h : i < M.length), M[i].length ≤ 100) :
    Calls Try.prog 18 #[.agg #[.int .u64 p], v] w fun e w' => ∃ v1 v2 R c, e = .returned (.tuple #[v1, v2]) ∧ MatR w' v1 R ∧ LsI w' v2 c ∧ RedOf p M R c ∧ Below w.heap.size w w' :=
  (mReduce_o p v M w hM hn hr).mono fun _ _ ⟨v1, v2, _, R, c, e, h1, h2, h3, h4⟩ => ⟨v1, v2, R, c, e, h1.matR, h2.lst, h3, h4⟩

set_option maxHeartbeats 1000000 in
theorem mRank_p (p : Int) [hpU : U p] (v : Value) (M : List (List Int)) (w : World) (hM : MatR w v M) (hn : M.length ≤ 100) (hr : ∀ i (h : i < M.length), M[i].length ≤ 100) :
    Calls Try.prog 22 #[.agg #[.int .u64 p], v] w fun e w' => ∃ (R : List (List Int)) (c : List Nat), e = .returned (.int .i64 c.length) ∧ RedOf p M R c ∧ Below w.heap.size w w' := by
  have HM := Lib.hid (And.intro hM hr)
  clear hM hr
  have hb0 : Below w.heap.size w (w.alloc (.cells #[.int .u64 p] 27)) := Below.made (Nat.le_refl _) (Below.refl _ _) _
  go_enter Try.func22, Try.ntmps22
  go_wp2_with (go_at_call 18; refine (mReduce_p p _ M _ (HM.out.1.hold hb0) hn HM.out.2).mono ?_; rintro _ w1 ⟨v1, v2, R, c, rfl, -, hc, hred, hb1⟩; obtain ⟨a2, c2, rfl⟩ := hc.shape; have HR := Lib.hid (And.intro hred hb1); clear hc hred hb1)
  go_ret
  exact ⟨R, c, rfl, HR.out.1, Below.next (Nat.le_refl _) hb0 HR.out.2⟩

set_option maxRecDepth 100000 in
set_option maxHeartbeats 4000000 in
theorem mDeterminant_p (p : Int) [hpU : U p] (v : Value) (M : List (List Int)) (w : World) (hM : MatR w v M) (hn : M.length ≤ 100) (hr : ∀ i (h : i < M.length), M[i].length ≤ 100) :
    Calls Try.prog 34 #[.agg #[.int .u64 p], v] w fun e w' => e = .returned (.int .u64 (detI p M)) ∧ Below w.heap.size w w' := by
  obtain ⟨a0, c0, rfl⟩ := hM.shape
  have HM := Lib.hid (And.intro hM hr)
  clear hM hr
  have hb0 : Below w.heap.size w (w.alloc (.cells #[.int .u64 p] 27)) := Below.made (Nat.le_refl _) (Below.refl _ _) _
  have hf0 : (w.alloc (.cells #[.int .u64 p] 27)).cell? ⟨w.heap.size, 0, none⟩ = some (.int .u64 p) := by go_simp
  have HB := Lib.hid (And.intro hb0 hf0)
  clear hb0 hf0
  by_cases hok : OkM p M
  · have hd : decide (OkM p M) = true := decide_eq_true hok
    have h64 := hok.2.2
    have hc64 := hok.2.cols
    by_cases hsq : M.length = cols M
    · have hne : ((M.length : Int) != (cols M : Int)) = false := by rw [hsq]; simp
      have hv : detI p M = ival p (Po.det M.length (mf p M)) := by unfold detI; rw [if_pos ⟨hok, hsq⟩]
      have HK := Lib.hid (And.intro hd (And.intro hok (And.intro hsq hv)))
      have i1 : (M.length : Int) ≤ 64 := by omega
      clear hd hok hsq hv
      go_enter Try.func34, Try.ntmps34
      go_upto_region 3 with (first
        | (go_at_call 61; refine (musable_u p _ M _ (HM.out.1.hold HB.out.1) (by omega) (fun i h => Nat.le_trans (HM.out.2 i h) (by decide))).mono ?_; rintro _ w1 ⟨rfl, hb1⟩; rw [HK.out.1])
        | (go_at_call 66; refine (mcolumns_u _ M _ (HM.out.1.hold (Below.next (Nat.le_refl _) HB.out.1 hb1.b)) (by omega)).mono ?_; rintro e w2 ⟨rfl, hw2⟩; obtain rfl : w1 = w2 := hw2.symm))
      have hf1 := hb1.hold HB.out.2
      have HB1 := Lib.hid (Below.next (Nat.le_refl _) HB.out.1 hb1.b)
      have G0 := fun (w' : World) (h : Below w1.heap.size w1 w') => Below.hold h hf1
      have F := Below.refl w1.heap.size w1
      clear hf1 hb1 hw2
      go_region_held3 (fun w' => Below w1.heap.size w1 w')
        (repeat (first | assumption | refine Below.drew ?_ | refine Below.next (Nat.le_refl _) ?_ (by assumption)))
        (first
          | (go_at_call 62; refine (mcopyOf_w p HK.out.2.1.1 _ M _ (HM.out.1.hold (Below.next (Nat.le_refl _) HB1.out (by assumption))) hn HM.out.2).mono ?_; rintro _ w2 ⟨v2, rs2, rfl, hm2, -, hsz2, hb2⟩; have hs2 : Below w1.heap.size w1 w2 := Below.next (Nat.le_refl _) (by repeat (first | assumption | refine Below.drew ?_)) hb2)
          | (go_at_call 63; refine (meliminate_w p HK.out.2.1.1 _ _ rs2 (redL p M) M.length (cols M) _ (hm2.hold (by repeat (first | exact Below.refl _ _ | refine Below.drew ?_))) HK.out.2.1.mt (cols_redL p M) (by omega) (by omega) hsz2).mono ?_; rintro _ w3 ⟨vp, rs3, R, c, fac, rfl, hm3, hc3, helm, hfr, hdet, hb3⟩; have hs3 : Below w1.heap.size w1 w3 := Below.trans (by repeat (first | assumption | refine Below.drew ?_)) (hb3.mono (by first | omega | (simp; done) | (simp; omega))); obtain ⟨a5, c5, rfl⟩ := hc3.lst.shape)
          | fail)
      all_goals
        have helm' := (helm.of_red HK.out.2.1.1).part
        have hres := det_of (m := M.length) HK.out.2.1.1 (by rw [HK.out.2.2.1] at helm' ⊢; exact helm') hfr (by rw [← mf_redL HK.out.2.1.1 M]; exact hdet)
        rw [← HK.out.2.2.2] at hres
        have HE := Lib.hid (And.intro hres hs3)
        clear helm helm' hres hs3 hb3 hdet hm3 hc3 hm2 hb2 hs2
        by_cases hl : c.length < M.length
        · have i2 : (c.length : Int) < (M.length : Int) := by omega
          have HV := Lib.hid (HE.out.1.trans (if_pos hl))
          clear hl
          go_wp2
          go_ret
          exact ⟨by rw [HV.out]; rfl, Below.next (Nat.le_refl _) HB1.out HE.out.2⟩
        · have i2 : ¬ (c.length : Int) < (M.length : Int) := by omega
          have HV := Lib.hid (HE.out.1.trans (if_neg hl))
          clear hl
          go_wp2
          go_ret
          exact ⟨by rw [HV.out]; rfl, Below.next (Nat.le_refl _) HB1.out HE.out.2⟩
    · have hne : ((M.length : Int) != (cols M : Int)) = true := bne_iff_ne.2 (show (M.length : Int) ≠ (cols M : Int) by omega)
      have hv : detI p M = 0 := by unfold detI; rw [if_neg fun h => hsq h.2]
      have HK := Lib.hid (And.intro hd hv)
      clear hd hok hsq hv
      go_enter Try.func34, Try.ntmps34
      go_wp2_with (first
        | (go_at_call 61; refine (musable_u p _ M _ (HM.out.1.hold HB.out.1) (by omega) (fun i h => Nat.le_trans (HM.out.2 i h) (by decide))).mono ?_; rintro _ w1 ⟨rfl, hb1⟩; rw [HK.out.1])
        | (go_at_call 66; refine (mcolumns_u _ M _ (HM.out.1.hold (Below.next (Nat.le_refl _) HB.out.1 hb1.b)) (by omega)).mono ?_; rintro e w2 ⟨rfl, hw2⟩; obtain rfl : w1 = w2 := hw2.symm))
      go_ret
      exact ⟨by rw [HK.out.2]; rfl, Below.next (Nat.le_refl _) HB.out.1 hb1.b⟩
  · have hd : decide (OkM p M) = false := decide_eq_false hok
    have hv : detI p M = 0 := by unfold detI; rw [if_neg fun h => hok h.1]
    have HK := Lib.hid (And.intro hd hv)
    clear hd hok hv
    go_enter Try.func34, Try.ntmps34
    go_wp2_with (first
      | (go_at_call 61; refine (musable_u p _ M _ (HM.out.1.hold HB.out.1) (by omega) (fun i h => Nat.le_trans (HM.out.2 i h) (by decide))).mono ?_; rintro _ w1 ⟨rfl, hb1⟩; rw [HK.out.1]))
    go_ret
    exact ⟨by rw [HK.out.2]; rfl, Below.next (Nat.le_refl _) HB.out.1 hb1.b⟩
end Go.Proofs.Ytdcdaclkeocfpaa

namespace Go.Proofs.Ytdcdaclkeocfpaa
open Go.RowKit Go.BigFrame
open Classical

theorem upd_range (f : Nat → Int) (n : Nat) : updK f (List.replicate n 0) 0 n = (List.range n).map f := by
  refine List.ext_getElem (by rw [updK_len]; simp) fun i h1 h2 => ?_
  rw [updK_len, List.length_replicate] at h1
  simp only [updK, List.getElem_map, List.getElem_range]
  rw [if_pos (by omega)]
instance instUival {p : Int} {x : Fin (Q p)} : U (ival p x) := inferInstance

set_option maxRecDepth 100000 in
set_option maxHeartbeats 4000000 in
theorem mApply_o (p : Int) [_hpU : U p] (v va : Value) (M : List (List Int)) (V : List Int) (w : World) (hM : MatR w v M) (hV : Lst w va V) (hn : M.length ≤ 100) (hr : ∀ i (h : i < M.length), M[i].length ≤ 100) (hv : V.length ≤ 100) :
    Calls Try.prog 39 #[.agg #[.int .u64 p], v, va] w fun e w' => ∃ v1, e = .returned v1 ∧ Own w' w.heap.size v1 (apL p M V) ∧ Below w.heap.size w w' := by
  obtain ⟨a0, c0, rfl⟩ := hM.shape
  obtain ⟨a1, c1, rfl⟩ := hV.shape
  have HM := Lib.hid (And.intro hM (And.intro hr hV))
  clear hM hr hV
  have hb0 : Below w.heap.size w (w.alloc (.cells #[.int .u64 p] 27)) := Below.made (Nat.le_refl _) (Below.refl _ _) _
  have hf0 : (w.alloc (.cells #[.int .u64 p] 27)).cell? ⟨w.heap.size, 0, none⟩ = some (.int .u64 p) := by go_simp
  have HB := Lib.hid (And.intro hb0 hf0)
  clear hb0 hf0
  by_cases hok : OkM p M
  · have hd : decide (OkM p M) = true := decide_eq_true hok
    have h64 := hok.2.2
    have hc64 := hok.2.cols
    by_cases hl : V.length = cols M
    · have hres : apL p M V = (List.range M.length).map fun i => ival p (Po.ap (cols M) (mf p M) (pf p V) i) := by unfold apL; rw [if_pos ⟨hok, hl⟩]
      have hne : ((V.length : Int) != (cols M : Int)) = false := by rw [hl]; simp
      have i1 : (M.length : Int) ≤ 64 := by omega
      obtain ⟨D, hD⟩ : ∃ D : Nat → Int, D = fun i => ival p (Po.ap (cols M) (mf p M) (pf p V) i) := ⟨_, rfl⟩
      have hDi : ∀ i (h : i < M.length), D i = dotTo p (fun j => M[i].getD j 0) (fun j => V.getD j 0) (min M[i].length V.length) := fun i h => by
        rw [hD, dot_sm hok.1]
        have h1 := (hok.2.1 i h).1
        rw [h1, hl, Nat.min_self]
        show ival p (Po.sm _ _) = _
        congr 2
        funext j
        rw [mf_row h]; rfl
      have hres2 : apL p M V = updK D (List.replicate M.length 0) 0 M.length := by rw [upd_range, hres, hD]
      have HK := Lib.hid (And.intro hok (And.intro hd (And.intro hl (And.intro hDi hres2))))
      clear hok hd hl hres hDi hres2 hD
      go_enter Try.func39, Try.ntmps39
      go_wp2_with (first
        | (go_at_call 61; refine (musable_u p _ M _ (HM.out.1.hold HB.out.1) (by omega) (fun i h => Nat.le_trans (HM.out.2.1 i h) (by decide))).mono ?_; rintro _ w1 ⟨rfl, hb1⟩; rw [HK.out.2.1])
        | (go_at_call 66; refine (mcolumns_u _ M _ (HM.out.1.hold (Below.next (Nat.le_refl _) HB.out.1 hb1.b)) (by omega)).mono ?_; rintro e w2 ⟨rfl, hw2⟩; obtain rfl : w1 = w2 := hw2.symm)
        | (at_make; refine make_zeros rfl (.tmp 22) (.tmp 22) rfl w1.heap.size M.length rfl rfl (by omega) (Nat.le_refl _) ?_; intro v3 w3 hown3 hv3 hb3; subst hv3; have hsz0 : w.heap.size + 1 ≤ w1.heap.size := (by have := hb1.b.size; simpa using this); have hbx3 := Below.hold hb3 (hb1.hold HB.out.2); have HO := Lib.hid (And.intro hown3 (And.intro (Below.next (Nat.le_refl _) (Below.next (Nat.le_refl _) HB.out.1 hb1.b) hb3) (And.intro hbx3 (Below.next (Nat.le_refl _) HB.out.1 hb1.b)))); clear hown3 hb3 hbx3 hb1))
      obtain ⟨g, hg⟩ : ∃ g, g = w1.heap.size := ⟨_, rfl⟩
      rw [← hg] at HO hsz0 ⊢
      clear hg hw2
      go_loopw [26] (fun iv wr => ∃ i : Nat, iv = .int .i64 i ∧ i ≤ M.length ∧ Own wr g (.slice (some ⟨g, 0, none⟩) M.length M.length) (updK D (List.replicate M.length 0) 0 i) ∧ wr.cell? ⟨w.heap.size, 0, none⟩ = some (.int .u64 p) ∧ Below w.heap.size w wr) (fun iv _ => M.length - (intOf iv).toNat)
      case atStart => exact ⟨0, rfl, Nat.zero_le _, by rw [updK_zero]; exact HO.out.1, HO.out.2.2.1, HO.out.2.1⟩
      case round =>
        obtain ⟨i, rfl, hi, hown, hbx, hb⟩ := hrel
        have i0 : (0 : Int) ≤ (i : Int) := by omega
        by_cases hlt : i < M.length
        · obtain ⟨b, o, c, rv, e, hc, hlr⟩ := (HM.out.1.hold hb).rows i hlt
          obtain ⟨rfl, rfl⟩ : a0 = some ⟨b, o, none⟩ ∧ c0 = c := by simp at e; exact e
          have hdi := HK.out.2.2.2.1 i hlt
          have hr1 := hlr.rowOf (by have := HM.out.2.1 i hlt; omega)
          have hr2 := (HM.out.2.2.hold hb).rowOf (by omega)
          obtain ⟨X, hX⟩ : ∃ X, X = M[i] := ⟨_, rfl⟩
          rw [← hX] at hdi hr1
          have i2 : (i : Int) < (M.length : Int) := by omega
          have hup := updK_set0 (f := D) (L := List.replicate M.length 0) (k := i)
          have hil : i < (updK D (List.replicate M.length 0) 0 i).length := by rw [updK_len]; simpa using hlt
          have hci := hown.cell hil
          have hzi := hown.thawed i
          obtain ⟨y, hy⟩ : ∃ y, y = (updK D (List.replicate M.length 0) 0 i)[i] := ⟨_, rfl⟩
          rw [← hy] at hci
          have HW := Lib.hid (And.intro hown (And.intro hb (And.intro hdi (And.intro hr1 (And.intro hr2 hup)))))
          clear hown hb hdi hr1 hr2 hX hlr e hlt hup hil hy
          go_wp2_with (go_at_call 78; refine (fDot_any p _ _ _ _ _ _ _ HW.out.2.2.2.1 HW.out.2.2.2.2.1).mono ?_; rintro _ w4 ⟨rfl, hb4⟩; have hci4 := hb4.hold hci; have hzi4 := hb4.holdf hzi; have hbx4 := hb4.hold hbx)
          have hU : U (D i) := by rw [HW.out.2.2.1]; exact ⟨dotTo_lo _ _ _ _, by have := dotTo_hi p (fun j => X.getD j 0) (fun j => V.getD j 0) (min X.length V.length); omega⟩
          have hs := (HW.out.1.hold hb4.b).set i (D i)
          rw [HW.out.2.2.2.2.2] at hs
          have hs2 := Below.wrote (Below.next (Nat.le_refl _) HW.out.2.1 hb4.b) (show w.heap.size ≤ g by omega) (Nat.le_trans HW.out.2.1.size hb4.b.size) (HW.out.1.hold hb4.b) hs.2
          rw [HW.out.2.2.1] at hs hs2
          refine ⟨⟨i + 1, by go_num, by omega, hs.1, ?_, hs2⟩, by simp [intOf]; omega⟩
          rw [World.cell?_setCell_far _ _ _ _ (by show g ≠ w.heap.size; omega)]
          exact hbx4
        · obtain rfl : M.length = i := by omega
          have HW := Lib.hid (And.intro hown hb)
          clear hown hb
          go_wp2
          go_ret
          exact ⟨_, rfl, by rw [HK.out.2.2.2.2]; exact HW.out.1.low (by omega), HW.out.2⟩
    · have hres : apL p M V = [] := by unfold apL; rw [if_neg fun h => hl h.2]
      have hne : ((V.length : Int) != (cols M : Int)) = true := bne_iff_ne.2 (show (V.length : Int) ≠ (cols M : Int) by omega)
      rw [hres]
      have HK := Lib.hid hd
      clear hok hd hl hres
      go_enter Try.func39, Try.ntmps39
      go_wp2_with (first
        | (go_at_call 61; refine (musable_u p _ M _ (HM.out.1.hold HB.out.1) (by omega) (fun i h => Nat.le_trans (HM.out.2.1 i h) (by decide))).mono ?_; rintro _ w1 ⟨rfl, hb1⟩; rw [HK.out])
        | (go_at_call 66; refine (mcolumns_u _ M _ (HM.out.1.hold (Below.next (Nat.le_refl _) HB.out.1 hb1.b)) (by omega)).mono ?_; rintro e w2 ⟨rfl, hw2⟩; obtain rfl : w1 = w2 := hw2.symm))
      go_ret
      exact ⟨_, rfl, Own.nil _ _, Below.next (Nat.le_refl _) HB.out.1 hb1.b⟩
  · have hd : decide (OkM p M) = false := decide_eq_false hok
    have hres : apL p M V = [] := by unfold apL; rw [if_neg fun h => hok h.1]
    rw [hres]
    have HK := Lib.hid hd
    clear hok hd hres
    go_enter Try.func39, Try.ntmps39
    go_wp2_with (first
      | (go_at_call 61; refine (musable_u p _ M _ (HM.out.1.hold HB.out.1) (by omega) (fun i h => Nat.le_trans (HM.out.2.1 i h) (by decide))).mono ?_; rintro _ w1 ⟨rfl, hb1⟩; rw [HK.out]))
    go_ret
    exact ⟨_, rfl, Own.nil _ _, Below.next (Nat.le_refl _) HB.out.1 hb1.b⟩

theorem mApply_p (p : Int) [hpU : U p] (v va : Value) (M : List (List Int)) (V : List Int) (w : World) (hM : MatR w v M) (hV : Lst w va V) (hn : M.length ≤ 100) (hr : ∀ i (h : i < M.length), M[i].length ≤ 100) (hv : V.length ≤ 100) :
    Calls Try.prog 39 #[.agg #[.int .u64 p], v, va] w fun e w' => ∃ v1, e = .returned v1 ∧ Lst w' v1 (apL p M V) ∧ Below w.heap.size w w' :=
  (mApply_o p v va M V w hM hV hn hr hv).mono fun _ _ ⟨v1, e, h1, h2⟩ => ⟨v1, e, h1.lst, h2⟩

/-- Row i of the product after j rows of B. -/
noncomputable def mrow (p : Int) (A B : List (List Int)) (i j : Nat) : List Int := (List.range (cols B)).map fun l => ival p (Po.sm (fun k => mf p A i k * mf p B k l) j)
theorem mrow_len (p : Int) (A B : List (List Int)) (i j : Nat) : (mrow p A B i j).length = cols B := by simp [mrow]
theorem mrow_zero {p : Int} (hk : known p = true) (A B : List (List Int)) (i : Nat) : mrow p A B i 0 = List.replicate (cols B) 0 := by
  unfold mrow
  refine List.ext_getElem (by simp) fun l h1 h2 => ?_
  simp only [List.getElem_map, List.getElem_range, List.getElem_replicate]
  exact ival_z hk
theorem mrow_succ {p : Int} (hk : known p = true) {A B : List (List Int)} {i j : Nat} (hi : i < A.length) (hj : j < B.length) (hrow : B[j].length = cols B) :
    updK (addL p (A[i].getD j 0) (mrow p A B i j) B[j] 0) (mrow p A B i j) 0 B[j].length = mrow p A B i (j + 1) := by
  refine List.ext_getElem (by rw [updK_len, mrow_len, mrow_len]) fun l h1 h2 => ?_
  rw [updK_len, mrow_len] at h1
  simp only [updK, List.getElem_map, List.getElem_range]
  rw [if_pos (by omega)]
  unfold addL
  rw [getD_lt _ (by rw [mrow_len]; exact h1), Nat.sub_zero, ad_ival hk, ph_ml hk]
  simp only [mrow, List.getElem_map, List.getElem_range]
  rw [ph_ival hk]
  congr 1
  show _ = Po.sm _ j + mf p A i j * mf p B j l
  rw [mf_row hi, mf_row hj]
  have e : ∀ a b c : Fin (Q p), a + b * c = a + c * b := fun a b c => by grind
  exact e _ _ _
theorem mulM_rows {p : Int} {A B : List (List Int)} (ha : OkM p A) (hb : OkM p B) (h : B.length = cols A) : mulM p A B = (List.range A.length).map fun i => mrow p A B i B.length := by
  unfold mulM
  rw [if_pos ⟨ha, hb, h⟩]
  rfl
theorem okM_vld {p : Int} {A B : List (List Int)} (ha : OkM p A) : OkM p B ↔ Vld B := ⟨fun h => h.2, fun h => ⟨ha.1, h⟩⟩

set_option maxRecDepth 100000 in
set_option maxHeartbeats 8000000 in
theorem mMultiply_o (p : Int) [_hpU : U p] (va vb : Value) (A B : List (List Int)) (w : World) (hA : MatR w va A) (hB : MatR w vb B) (hn : A.length ≤ 100) (hm : B.length ≤ 100) (hra : ∀ i (h : i < A.length), A[i].length ≤ 100) (hrb : ∀ i (h : i < B.length), B[i].length ≤ 100) :
    Calls Try.prog 37 #[.agg #[.int .u64 p], va, vb] w fun e w' => ∃ v1 rs, e = .returned v1 ∧ OwnM w' w.heap.size v1 rs (mulM p A B) ∧ Below w.heap.size w w' := by
  obtain ⟨a0, c0, rfl⟩ := hA.shape
  obtain ⟨a1, c1, rfl⟩ := hB.shape
  have HM := Lib.hid (And.intro hA (And.intro hra (And.intro hB hrb)))
  clear hA hra hB hrb
  have hb0 : Below w.heap.size w (w.alloc (.cells #[.int .u64 p] 27)) := Below.made (Nat.le_refl _) (Below.refl _ _) _
  have hf0 : (w.alloc (.cells #[.int .u64 p] 27)).cell? ⟨w.heap.size, 0, none⟩ = some (.int .u64 p) := by go_simp
  have HB := Lib.hid (And.intro hb0 hf0)
  clear hb0 hf0
  by_cases hok : OkM p A
  · have hd : decide (OkM p A) = true := decide_eq_true hok
    have h64 := hok.2.2
    have hc64 := hok.2.cols
    by_cases hvb : Vld B
    · have hdb : decide (Vld B) = true := decide_eq_true hvb
      have h64b := hvb.2
      have hc64b := hvb.cols
      by_cases hl : B.length = cols A
      · have hne : ((B.length : Int) != (cols A : Int)) = false := by rw [hl]; simp
        have i1 : (A.length : Int) ≤ 64 := by omega
        have hokb : OkM p B := (okM_vld hok).2 hvb
        have hres := mulM_rows hok hokb hl
        obtain ⟨F, hF⟩ : ∃ F, F = mulM p A B := ⟨_, rfl⟩
        rw [← hF] at hres ⊢
        have hFl : F.length = A.length := by rw [hres]; simp
        have hFi : ∀ i (h : i < F.length), F[i] = mrow p A B i B.length := fun i h => by simp [hres]
        have HK := Lib.hid (And.intro hok (And.intro hd (And.intro hokb (And.intro hdb (And.intro hl (And.intro hFl hFi))))))
        clear hok hd hokb hdb hl hFl hFi hres hF hvb
        go_enter Try.func37, Try.ntmps37
        go_wp2_with (first
          | (go_at_call 61; refine (musable_u p _ A _ (HM.out.1.hold HB.out.1) (by omega) (fun i h => Nat.le_trans (HM.out.2.1 i h) (by decide))).mono ?_; rintro _ w1 ⟨rfl, hb1⟩; rw [HK.out.2.1])
          | (go_at_call 44; refine (mValid_u _ B _ (HM.out.2.2.1.hold (Below.next (Nat.le_refl _) HB.out.1 hb1.b)) (by omega) (fun i h => Nat.le_trans (HM.out.2.2.2 i h) (by decide))).mono ?_; rintro _ w2 ⟨rfl, hb2⟩; rw [HK.out.2.2.2.1])
          | (go_at_call 66; refine (mcolumns_u _ A _ (HM.out.1.hold (Below.next (Nat.le_refl _) (Below.next (Nat.le_refl _) HB.out.1 hb1.b) hb2.b)) (by omega)).mono ?_; rintro e w3 ⟨rfl, hw3⟩; obtain rfl : w2 = w3 := hw3.symm)
          | (at_make; refine make_rows rfl (.tmp 29) (.tmp 29) rfl w2.heap.size A.length rfl rfl (by omega) (Nat.le_refl _) ?_; intro v3 w3 hown3 hv3 hb3; subst hv3; have hsz0 : w.heap.size + 1 ≤ w2.heap.size := (by have := hb1.b.size; have := hb2.b.size; simp at *; omega); have hbx3 := Below.hold hb3 (hb2.hold (hb1.hold HB.out.2)); have hb13 := Below.next (Nat.le_refl _) (Below.next (Nat.le_refl _) HB.out.1 hb1.b) hb2.b; have HO := Lib.hid (And.intro hown3 (And.intro (Below.next (Nat.le_refl _) hb13 hb3) (And.intro hbx3 (And.intro hb13 hb3)))); clear hown3 hb3 hbx3 hb1 hb2 hb13))
        obtain ⟨g, hg⟩ : ∃ g, g = w2.heap.size := ⟨_, rfl⟩
        rw [← hg] at HO hsz0 ⊢
        have hgs : g ≤ w3.heap.size := by rw [hg]; exact HO.out.2.2.2.2.size
        clear hg hw3
        go_loopw [33] (fun iv wr => ∃ (i : Nat) (rs : Nat → Value), iv = .int .i64 i ∧ i ≤ A.length ∧ OwnM wr g (.slice (some ⟨g, 0, none⟩) A.length A.length) rs (fillL F i) ∧ wr.cell? ⟨w.heap.size, 0, none⟩ = some (.int .u64 p) ∧ Below w.heap.size w wr ∧ g ≤ wr.heap.size) (fun iv _ => A.length - (intOf iv).toNat)
        case atStart => exact ⟨0, _, rfl, Nat.zero_le _, by rw [fillL_zero, HK.out.2.2.2.2.2.1]; exact HO.out.1, HO.out.2.2.1, HO.out.2.1, hgs⟩
        case round =>
          obtain ⟨i, rs, rfl, hi, hown, hbx, hb, hsr⟩ := hrel
          have i0 : (0 : Int) ≤ (i : Int) := by omega
          by_cases hlt : i < A.length
          · have hFl := HK.out.2.2.2.2.2.1
            have hFS := fillL_set (F := F) (i := i) (by omega)
            rw [HK.out.2.2.2.2.2.2 i (by omega)] at hFS
            have hSl : (fillL F i).length = A.length := by rw [fillL_len (by omega)]; exact hFl
            obtain ⟨S, hS⟩ : ∃ S, S = fillL F i := ⟨_, rfl⟩
            rw [← hS] at hown hFS hSl
            obtain ⟨b, o, c, rv, e, hcw, hl⟩ := HM.out.1.rows i hlt
            have hc := Below.hold hb hcw
            obtain ⟨rfl, rfl⟩ : a0 = some ⟨b, o, none⟩ ∧ c0 = c := by simp at e; exact e
            obtain ⟨ra, rc, rfl⟩ := hl.shape
            have hXl : A[i].length = B.length := by rw [(HK.out.1.2.1 i hlt).1, HK.out.2.2.2.2.1]
            have hms := fun j (hj : j < B.length) => mrow_succ (i := i) HK.out.1.1 hlt hj (HK.out.2.2.1.2.1 j hj).1
            have hmz := mrow_zero HK.out.1.1 A B i
            obtain ⟨Z, hZ⟩ : ∃ Z : Nat → List Int, Z = mrow p A B i := ⟨_, rfl⟩
            have hZl : ∀ j, (Z j).length = cols B := fun j => by rw [hZ]; exact mrow_len p A B i j
            rw [← hZ] at hms hmz hFS
            obtain ⟨X, hX⟩ : ∃ X, X = A[i] := ⟨_, rfl⟩
            rw [← hX] at hl hc hXl hms
            have i3 : (i : Int) < (A.length : Int) := by omega
            have i4 : (cols B : Int) ≤ 64 := by omega
            have hci := hown.cell (i := i) (by omega)
            have hzi := hown.thawed i
            have HW := Lib.hid (And.intro hown (And.intro hb (And.intro hl (And.intro hFS (And.intro hSl (And.intro hms (And.intro hbx (And.intro hXl (And.intro hZl hmz)))))))))
            clear hown hl hFS hX hXl hms hmz hZ e hS hcw hSl hFl
            go_wp2_with (first
              | (go_at_call 66; refine (mcolumns_u _ B _ (HM.out.2.2.1.hold hb) (by omega)).mono ?_; rintro e w3 ⟨rfl, hw3⟩; obtain rfl : wr = w3 := hw3.symm)
              | (at_make; refine make_zeros rfl (.tmp 41) (.tmp 41) rfl wr.heap.size (cols B) rfl rfl (by omega) (Nat.le_refl _) ?_; intro v1 w4 hown1 hv1 hb1; subst hv1; have hci1 := Below.hold hb1 hci; have hzi1 := (HW.out.1.hold hb1).thawed i))
            have hbl : ∀ k, k < S.length → k ≠ i → ∀ b, (rs k).ownBlock = some b → (Value.slice (some ⟨wr.heap.size, 0, none⟩) (cols B) (cols B)).ownBlock ≠ some b := fun k hk _ b hb e2 => by
              have := ((HW.out.1.row k hk).row.lt b hb).2
              have e3 : wr.heap.size = b := by simpa [Value.ownBlock] using e2
              omega
            have hst := (HW.out.1.hold hb1).setRow (i := i) (hown1.low hsr) hbl (fun e2 => by
              have := (HW.out.1.outer.lt g rfl).2
              have e3 : wr.heap.size = g := by simpa [Value.ownBlock] using e2
              omega)
            have hb2 : Below w.heap.size w _ := OwnM.wroteO (Below.next (Nat.le_refl _) hb hb1) (by omega) (Nat.le_trans hb.size hb1.size) (HW.out.1.hold hb1) hst.2
            have hbx2 : (w4.setCell ⟨g, i, none⟩ (.slice (some ⟨wr.heap.size, 0, none⟩) (cols B) (cols B))).cell? ⟨w.heap.size, 0, none⟩ = some (.int .u64 p) := by
              rw [World.cell?_setCell_far _ _ _ _ (by show g ≠ w.heap.size; omega)]
              exact Below.hold hb1 HW.out.2.2.2.2.2.2.1
            have HS := Lib.hid (And.intro hst.1 (And.intro hb2 hbx2))
            obtain ⟨rs1, hrs1⟩ : ∃ f : Nat → Value, f = rsSet rs i (.slice (some ⟨wr.heap.size, 0, none⟩) (cols B) (cols B)) := ⟨_, rfl⟩
            have hr1 : rs1 i = .slice (some ⟨wr.heap.size, 0, none⟩) (cols B) (cols B) := by rw [hrs1, rsSet_at]
            rw [← hrs1] at HS
            have hsz2 : g ≤ w4.heap.size := Nat.le_trans hsr hb1.size
            clear hst hb2 hbl hci hzi hci1 hzi1 hown1 hb1 hbx2 hrs1 hbx hb
            obtain ⟨G, hG⟩ : ∃ G, G = wr.heap.size := ⟨_, rfl⟩
            rw [← hG] at HS hr1 ⊢
            have hGw : g ≤ G := by omega
            clear hG hc
            go_loopw [46] (fun jv wi => ∃ j : Nat, jv = .int .i64 j ∧ j ≤ X.length ∧ OwnM wi g (.slice (some ⟨g, 0, none⟩) A.length A.length) rs1 (S.set i (Z j)) ∧ wi.cell? ⟨w.heap.size, 0, none⟩ = some (.int .u64 p) ∧ Below w.heap.size w wi ∧ g ≤ wi.heap.size) (fun jv _ => X.length - (intOf jv).toNat)
            case atStart => exact ⟨0, rfl, Nat.zero_le _, by rw [HW.out.2.2.2.2.2.2.2.2.2]; exact HS.out.1, HS.out.2.2, HS.out.2.1, by simpa using hsz2⟩
            case round =>
              obtain ⟨j, rfl, hj, hown, hbx, hb, hsi⟩ := hrel
              have j0 : (0 : Int) ≤ (j : Int) := by omega
              have hXl := HW.out.2.2.2.2.2.2.2.1
              by_cases hjl : j < X.length
              · have hjB : j < B.length := by omega
                obtain ⟨b1, o1, cx, e1, hcc⟩ := (HW.out.2.2.1.hold hb).cells j hjl
                obtain ⟨rfl, rfl⟩ : ra = some ⟨b1, o1, none⟩ ∧ rc = cx := by simp at e1; exact e1
                obtain ⟨b2, o2, c2, rv2, e2, hcw, hlb⟩ := HM.out.2.2.1.rows j hjB
                obtain ⟨rfl, rfl⟩ : a1 = some ⟨b2, o2, none⟩ ∧ c1 = c2 := by simp at e2; exact e2
                have hcb := Below.hold hb hcw
                have hiS : ∀ Y, i < (S.set i Y).length := fun Y => by rw [List.length_set, HW.out.2.2.2.2.1]; omega
                have hco := hown.out (hiS _) hr1
                have hoR := hown.row i (hiS _)
                rw [List.getElem_set_self, hr1] at hoR
                have hux := HW.out.2.2.1.us X[j] (List.getElem_mem hjl)
                have hmj := HW.out.2.2.2.2.2.1 j hjB
                rw [getD_lt _ hjl] at hmj
                have hof : 0 < B[j].length → rv2.ownBlock ≠ (Value.slice (some ⟨G, 0, none⟩) (cols B) (cols B)).ownBlock := fun h e3 => by
                  have h1 : rv2.ownBlock = some G := e3
                  have h2 := hlb.lt h h1
                  omega
                have hbl := (HK.out.2.2.1.2.1 j hjB)
                obtain ⟨x, hx⟩ : ∃ x, x = X[j] := ⟨_, rfl⟩
                obtain ⟨Y, hY⟩ : ∃ Y, Y = B[j] := ⟨_, rfl⟩
                rw [← hx] at hcc hux hmj
                rw [← hY] at hmj hlb hof hbl
                have j1 : (j : Int) < (X.length : Int) := by omega
                have j2 : (j : Int) < (B.length : Int) := by omega
                have HV := Lib.hid (And.intro hown (And.intro hb (And.intro hoR (And.intro hmj (And.intro hlb (And.intro hof hbl))))))
                clear hown hoR hmj hlb hof hx hY hcw e1 e2 hiS hbl hXl
                go_wp2_with fail
                have k0 := fun q : NwAt wr => q.nw.hold hbx
                have k1 := fun q : NwAt wr => q.nw.hold hco
                have k2 := fun q : NwAt wr => q.nw.hold hcb
                refine from_here ?_
                intro q
                refine wp_region_nwt 10 (by kernel_rfl) (by kernel_rfl) ?_
                simp only [List.take_succ_cons, List.take_zero, List.drop_succ_cons, List.drop_zero]
                repeat (go_big_quiet_step ((first | fail)))
                refine wpQuiet_nil ?_
                clear q
                rintro _ ⟨q, rfl⟩
                have m0 := k0 q
                clear k0 k1 k2
                go_wp2_with (go_at_call 74; refine (maddMul_w p x g _ _ (Z j) Y _ (HV.out.2.2.1.hold q.nw.b) ((HV.out.2.2.2.2.1.hold hb).hold q.nw.b) HV.out.2.2.2.2.2.1 (by rw [HW.out.2.2.2.2.2.2.2.2.1, HV.out.2.2.2.2.2.2.1]; exact Nat.le_refl _) (by rw [HW.out.2.2.2.2.2.2.2.2.1]; omega)).mono ?_; rintro _ w5 ⟨rfl, hown5, hg5⟩)
                rw [HV.out.2.2.2.1] at hown5
                have hup := (HV.out.1.hold q.nw.b).upd (i := i) (by rw [List.length_set, HW.out.2.2.2.2.1]; omega) (r := Z (j + 1)) (by rw [hr1]; exact hown5) (by rw [hr1]; exact hg5)
                rw [List.set_set] at hup
                have hbx5 := grown_cell hg5 m0 (by intro e; have e2 : w.heap.size = G := by simpa [Value.ownBlock] using e
                                                   omega)
                have hb5 := (Below.next (Nat.le_refl _) hb q.nw.b).grown hg5 (Nat.le_trans hb.size q.nw.b.size) (fun b e => by
                  have e2 : G = b := by simpa [Value.ownBlock] using e
                  omega)
                exact ⟨⟨j + 1, by go_num, by omega, hup, hbx5, hb5, Nat.le_trans hsi (Nat.le_trans q.nw.b.size hg5.size)⟩, by simp [intOf]; omega⟩
              · obtain rfl : j = X.length := by omega
                rw [hXl, HW.out.2.2.2.1] at hown
                clear hXl
                have HF := Lib.hid (And.intro hown (And.intro hbx (And.intro hb hsi)))
                clear hown hbx hb hsi
                go_wp2
                exact ⟨⟨i + 1, rs1, by go_num, by omega, HF.out.1, HF.out.2.1, HF.out.2.2.1, HF.out.2.2.2⟩, by simp [intOf]; omega⟩
          · obtain rfl : i = A.length := by omega
            have HF := Lib.hid (And.intro hown hb)
            clear hown hb hbx
            go_wp2
            go_ret
            refine ⟨_, rs, rfl, ?_, HF.out.2⟩
            have h := HF.out.1
            rw [← HK.out.2.2.2.2.2.1, fillL_all, HK.out.2.2.2.2.2.1] at h
            exact h.low (by omega)
      · have hne : ((B.length : Int) != (cols A : Int)) = true := bne_iff_ne.2 (show (B.length : Int) ≠ (cols A : Int) by omega)
        have hres : mulM p A B = [] := by unfold mulM; rw [if_neg fun h => hl h.2.2]
        rw [hres]
        have HK := Lib.hid (And.intro hd hdb)
        clear hok hd hdb hl hres hvb
        go_enter Try.func37, Try.ntmps37
        go_wp2_with (first
          | (go_at_call 61; refine (musable_u p _ A _ (HM.out.1.hold HB.out.1) (by omega) (fun i h => Nat.le_trans (HM.out.2.1 i h) (by decide))).mono ?_; rintro _ w1 ⟨rfl, hb1⟩; rw [HK.out.1])
          | (go_at_call 44; refine (mValid_u _ B _ (HM.out.2.2.1.hold (Below.next (Nat.le_refl _) HB.out.1 hb1.b)) (by omega) (fun i h => Nat.le_trans (HM.out.2.2.2 i h) (by decide))).mono ?_; rintro _ w2 ⟨rfl, hb2⟩; rw [HK.out.2])
          | (go_at_call 66; refine (mcolumns_u _ A _ (HM.out.1.hold (Below.next (Nat.le_refl _) (Below.next (Nat.le_refl _) HB.out.1 hb1.b) hb2.b)) (by omega)).mono ?_; rintro e w3 ⟨rfl, hw3⟩; obtain rfl : w2 = w3 := hw3.symm))
        go_ret
        exact ⟨_, fun _ => undef, rfl, OwnM.nil _ _ _, Below.next (Nat.le_refl _) (Below.next (Nat.le_refl _) HB.out.1 hb1.b) hb2.b⟩
    · have hdb : decide (Vld B) = false := decide_eq_false hvb
      have hres : mulM p A B = [] := by unfold mulM; rw [if_neg fun h => hvb h.2.1.2]
      rw [hres]
      have HK := Lib.hid (And.intro hd hdb)
      clear hok hd hdb hres hvb
      go_enter Try.func37, Try.ntmps37
      go_wp2_with (first
        | (go_at_call 61; refine (musable_u p _ A _ (HM.out.1.hold HB.out.1) (by omega) (fun i h => Nat.le_trans (HM.out.2.1 i h) (by decide))).mono ?_; rintro _ w1 ⟨rfl, hb1⟩; rw [HK.out.1])
        | (go_at_call 44; refine (mValid_u _ B _ (HM.out.2.2.1.hold (Below.next (Nat.le_refl _) HB.out.1 hb1.b)) (by omega) (fun i h => Nat.le_trans (HM.out.2.2.2 i h) (by decide))).mono ?_; rintro _ w2 ⟨rfl, hb2⟩; rw [HK.out.2]))
      go_ret
      exact ⟨_, fun _ => undef, rfl, OwnM.nil _ _ _, Below.next (Nat.le_refl _) (Below.next (Nat.le_refl _) HB.out.1 hb1.b) hb2.b⟩
  · have hd : decide (OkM p A) = false := decide_eq_false hok
    have hres : mulM p A B = [] := by unfold mulM; rw [if_neg fun h => hok h.1]
    rw [hres]
    have HK := Lib.hid hd
    clear hok hd hres
    go_enter Try.func37, Try.ntmps37
    go_wp2_with (first
      | (go_at_call 61; refine (musable_u p _ A _ (HM.out.1.hold HB.out.1) (by omega) (fun i h => Nat.le_trans (HM.out.2.1 i h) (by decide))).mono ?_; rintro _ w1 ⟨rfl, hb1⟩; rw [HK.out]))
    go_ret
    exact ⟨_, fun _ => undef, rfl, OwnM.nil _ _ _, Below.next (Nat.le_refl _) HB.out.1 hb1.b⟩

theorem mMultiply_p (p : Int) [hpU : U p] (va vb : Value) (A B : List (List Int)) (w : World) (hA : MatR w va A) (hB : MatR w vb B) (hn : A.length ≤ 100) (hm : B.length ≤ 100) (hra : ∀ i (h : i < A.length), A[i].length ≤ 100) (hrb : ∀ i (h : i < B.length), B[i].length ≤ 100) :
    Calls Try.prog 37 #[.agg #[.int .u64 p], va, vb] w fun e w' => ∃ v1, e = .returned v1 ∧ MatR w' v1 (mulM p A B) ∧ Below w.heap.size w w' :=
  (mMultiply_o p va vb A B w hA hB hn hm hra hrb).mono fun _ _ ⟨v1, _, e, h1, h2⟩ => ⟨v1, e, h1.matR, h2⟩
end Go.Proofs.Ytdcdaclkeocfpaa

namespace Go.Proofs.Ytdcdaclkeocfpaa
open Go.RowKit Go.BigFrame

section
variable {P : Program} {ops : Array Oper} {Q : Exit → Act → World → Prop} {md : Region.Mode} {S : World → Prop} {k : Nat}

def wpAnyK (P : Program) (md : Region.Mode) (ops : Array Oper) (Q : Exit → Act → World → Prop) (S : World → Prop) (k : Nat) : Nat → Array Bool → Act → World → Prop
  | 0, listed, a, w => Region.ready md ops listed = [] ∧ Q .normal a w
  | fuel + 1, listed, a, w =>
    (Region.ready md ops listed = [] → Q .normal a w) ∧
    ∀ i ∈ Region.ready md ops listed, wpOp P ops Q i (fun a' w' => (i = k ∨ S w') ∧ wpAnyK P md ops Q S k fuel (listed.setIfInBounds i true) a' w') a w

theorem wpAny_of_k : ∀ (fuel : Nat) (listed : Array Bool) (a : Act) (w : World), wpAnyK P md ops Q S k fuel listed a w → wpAny P md ops Q fuel listed a w
  | 0, _, _, _, h => h
  | fuel + 1, _, _, _, h => ⟨h.1, fun i hi => wpOp_mono (fun a' w' h' => wpAny_of_k fuel _ a' w' h'.2) (h.2 i hi)⟩

/-- Operation i is taken first: it yields v in every world that meets S, and the last one, k, waits for it. -/
theorem wpAnyK_first {i : Nat} {oi : Oper} {v : Value} (hi : ops[i]? = some oi) (hsel : ∀ (j : Nat) (o : Oper) cs b, ops[j]? = some o → o.op ≠ .select cs b)
    (hQ : ∀ c a w, Q (.panic c) (a.put oi.dst v) w → Q (.panic c) a w) (hik : i ≠ k) (hk : ∀ ok, ops[k]? = some ok → ∃ e ∈ ok.after, Region.binds md e = true ∧ e.on = i) :
    ∀ (fuel : Nat) (listed : Array Bool) (a : Act) (w : World),
      (∀ j oj, ops[j]? = some oj → j ≠ i → listed.getD j true = false → (∀ e ∈ oj.after, Region.binds md e = true → e.on ≠ i) → oi.apart ops oj = true) →
      i ∈ Region.ready md ops listed → YieldsIf P ops S oi v a → S w →
      wpAnyK P md ops Q S k fuel (listed.setIfInBounds i true) (a.put oi.dst v) w → wpAnyK P md ops Q S k (fuel + 1) listed a w := by
  intro fuel
  induction fuel with
  | zero =>
    intro listed a w _ hr hy hS H
    refine ⟨fun h => (by rw [h] at hr; cases hr), fun j hj => ?_⟩
    by_cases hji : j = i
    · subst hji; exact hy.wpOp hi hS ⟨.inr hS, H⟩
    · have := ready_mono hj hji
      rw [H.1] at this
      cases this
  | succ fuel ih =>
    intro listed a w hfree hr hy hS H
    refine ⟨fun h => (by rw [h] at hr; cases hr), fun j hj => ?_⟩
    by_cases hji : j = i
    · subst hji; exact hy.wpOp hi hS ⟨.inr hS, H⟩
    · have h1 := H.2 j (ready_mono hj hji)
      obtain ⟨hjun, oj, hoj, hall⟩ := mem_ready.1 hj
      have hnot : ∀ e ∈ oj.after, Region.binds md e = true → e.on ≠ i := fun e he hb heq => by
        have h1 := hall e he hb
        have h0 := (mem_ready.1 hr).1
        rw [heq] at h1
        rcases Nat.lt_or_ge i listed.size with h' | h'
        · simp [h'] at h0 h1; rw [h0] at h1; cases h1
        · simp [Array.getElem?_eq_none h'] at h1
      have hjk : j ≠ k := fun e => by
        subst e
        obtain ⟨x, hx, hb, he⟩ := hk oj hoj
        exact hnot x hx hb he
      have h2 := wpOp_putIf hoj (hfree j oj hoj hji hjun hnot) (fun cs b => hsel i oi cs b hi) (fun cs b => hsel j oj cs b hoj) hQ hy h1
      have hfree' : ∀ k ok, ops[k]? = some ok → k ≠ i → (listed.setIfInBounds j true).getD k true = false →
          (∀ e ∈ ok.after, Region.binds md e = true → e.on ≠ i) → oi.apart ops ok = true := fun k ok hk hki hun hno => by
        refine hfree k ok hk hki ?_ hno
        by_cases hjk : j = k
        · subst hjk; exact hjun
        · rw [getD_set_ne true hjk] at hun; exact hun
      refine wpOp_mono (fun a' w' h3 => ?_) h2
      have hS' : S w' := h3.2.1.resolve_left hjk
      refine ⟨.inr hS', ih (listed.setIfInBounds j true) a' w' hfree' (ready_mono hr (Ne.symm hji)) h3.1 hS' ?_⟩
      rw [Array.setIfInBounds_comm _ _ hji]
      exact h3.2.2

def waitsB (md : Region.Mode) (ops : Array Oper) (k i : Nat) : Bool := i != k && match ops[k]? with
  | some o => o.after.any fun e => Region.binds md e && e.on == i
  | none => true
theorem wpAnyK_take (i : Nat) {oi : Oper} (v : Value) (d : Option Tmp) {fuel : Nat} {listed : Array Bool} {a : Act} {w : World} (hi : ops[i]? = some oi) (hd : oi.dst = d)
    (hs : Region.noSelect ops = true) (hf : Region.free md ops listed i = true) (hr : (Region.ready md ops listed).contains i = true) (hk : waitsB md ops k i = true)
    (hQ : ∀ c a w, Q (.panic c) (a.put d v) w → Q (.panic c) a w) (hy : YieldsIf P ops S oi v a) (hS : S w)
    (h : wpAnyK P md ops Q S k fuel (listed.setIfInBounds i true) (a.put d v) w) : wpAnyK P md ops Q S k (fuel + 1) listed a w := by
  subst hd
  simp only [waitsB, Bool.and_eq_true, bne_iff_ne, ne_eq] at hk
  refine wpAnyK_first hi (Region.noSelect_spec hs) hQ hk.1 (fun ok hok => ?_) fuel listed a w (Region.free_spec hi hf) (by simpa using hr) hy hS h
  have h2 := hk.2
  rw [hok] at h2
  simp only [Array.any_eq_true, Bool.and_eq_true, beq_iff_eq] at h2
  obtain ⟨x, hx, h3, h4⟩ := h2
  exact ⟨_, Array.getElem_mem hx, h3, h4⟩
/-- One alone may come up. -/
theorem wpAnyK_one (i : Nat) {oi : Oper} {fuel : Nat} {listed : Array Bool} {a : Act} {w : World} (ho : ops[i]? = some oi) (hg : oi.guard = none) (hr : Region.ready md ops listed = [i])
    (h : wpList Try.prog ops (fun e a' w' => e = .normal ∧ ((i = k ∨ S w') ∧ wpAnyK Try.prog md ops Q S k fuel (listed.setIfInBounds i true) a' w')) [oi] a w) : wpAnyK Try.prog md ops Q S k (fuel + 1) listed a w := by
  refine ⟨fun h0 => (by rw [hr] at h0; cases h0), fun j hj => ?_⟩
  rw [hr] at hj
  obtain rfl := List.mem_singleton.1 hj
  have h2 := step_of (K := fun a' w' => (j = k ∨ S w') ∧ wpAnyK Try.prog md ops Q S k fuel (listed.setIfInBounds j true) a' w') (Q := Q) (E := False) hg h
  have hw : Region.wanted oi (yielded ops a.tmps) = true := by simp [Region.wanted, hg]
  unfold wpOp
  simp only [ho, hw, if_true] at h2 ⊢
  exact .inl h2
theorem wp_region_k {id : Nat} {a : Act} {w : World} (k : Nat) (S : World → Prop) (hm : P.follows .mixedOrders = true)
    (h : wpAnyK P .any ops Q S k ops.size (Array.replicate ops.size false) a w.drew) : (Code.region id ops true).wp P Q a w :=
  wp_region_any hm (wpAny_of_k _ _ _ _ h)
theorem wpAnyK_done {listed : Array Bool} {a : Act} {w : World} (hr : Region.ready md ops listed = []) (h : Q .normal a w) : ∀ fuel, wpAnyK P md ops Q S k fuel listed a w
  | 0 => ⟨hr, h⟩
  | _ + 1 => ⟨fun _ => h, by rw [hr]; simp⟩
end
end Go.Proofs.Ytdcdaclkeocfpaa

namespace Go.Proofs.Ytdcdaclkeocfpaa
open Go.RowKit Go.BigFrame
open Classical

theorem grown_own {w : World} {base g c : Nat} {l m : List Int} (hown : Own w base (.slice (some ⟨g, 0, none⟩) l.length c) l) (hm : Us m) (hbase : base ≤ w.heap.size) (cap : Nat) (hc : l.length + m.length ≤ cap) (hc2 : cap ≤ maxLen) (W : World)
    (hW : W = w.drew.alloc (.cells ((vs l).toArray ++ (vs m).toArray ++ Builtin.zeroCells (Value.int .u64 0).cells (cap - (l.length + m.length))) 22)) :
    Own W base (.slice (some ⟨w.heap.size, 0, none⟩) (l.length + m.length) cap) (l ++ m) ∧ Below w.heap.size w W := by
  have hA := heap_alloc_new w.drew (.cells ((vs l).toArray ++ (vs m).toArray ++ Builtin.zeroCells (Value.int .u64 0).cells (cap - (l.length + m.length))) 22)
  rw [← hW] at hA
  refine ⟨⟨⟨by rw [vs_len, List.length_append]; omega, .inr ⟨w.heap.size, cap, _, by rw [List.length_append], hbase, hA, by rw [List.length_append]; exact hc, hc2, ?_, ?_⟩⟩, fun y hy => ?_⟩, ?_⟩
  · simp only [Array.size_append, List.size_toArray, size_zeroCells, vs_len]
    simp [Value.cells]
    omega
  · rw [Nat.mul_one, Array.toList_append, Array.toList_append]
    rw [show vs l ++ vs m = vs (l ++ m) by simp [vs]]
    exact List.take_left' (by simp [vs])
  · rcases List.mem_append.1 hy with hy | hy
    · exact hown.us y hy
    · exact hm y hy
  · rw [hW]; exact Below.made (Nat.le_refl _) (Below.drew (Below.refl _ _)) _

/-- 'append(s, x)' onto a full list of the call's own. -/
theorem append_full {w : World} {ops : Array Oper} {rest : List Oper} {o : Oper} {a : Act} {Q : Exit → Act → World → Prop} (hgd : o.guard = none) (s x : Operand)
    (ho : o.op = .call { callee := .builtin .append, args := #[s, x], argTypes := #[36, 36] })
    (base g : Nat) (l : List Int) (hs : a.eval s = .slice (some ⟨g, 0, none⟩) l.length l.length) (hown : Own w base (.slice (some ⟨g, 0, none⟩) l.length l.length) l) (n : Int) (hn : U n) (H : Nat) (hx : a.eval x = .slice (some ⟨H, 0, none⟩) 1 1) (hc : w.cell? ⟨H, 0, none⟩ = some (.int .u64 n))
    (hl : l.length ≤ 1000000) (hbase : base ≤ w.heap.size)
    (h : ∀ c w', Own w' base (.slice (some ⟨w.heap.size, 0, none⟩) (l.length + 1) c) (l ++ [n]) → Below w.heap.size w w' → wpList Try.prog ops Q rest (a.put o.dst (.slice (some ⟨w.heap.size, 0, none⟩) (l.length + 1) c)) w') : wpList Try.prog ops Q (o :: rest) a w := by
  obtain ⟨i0, hi, hz0, hz1, hz2⟩ := info_parts info_u64
  have hnew : ∀ (j : Nat) (u : Value), [Value.int .u64 n][j]? = some u → w.cell? ((⟨H, 0, none⟩ : Addr).add j) = some u := by
    intro j u hj
    match j, hj with
    | 0, hj => simp at hj; subst hj; simpa [Addr.add] using hc
  have hr := run_append_grow (P := Try.prog) w 36 o.type 22 i0 (.int .u64 0) Try.underlying36 hi hz0 ⟨g, 0, none⟩ l.length l.length (vs l) (by rw [vs_len, hz1]; omega) (hown.row.cells (g := g) rfl) ⟨H, 0, none⟩ 1 1 [.int .u64 n] (by rw [hz1]; rfl) hnew (by omega) (by omega)
    (by rw [hz2]; exact growslice_fits (by omega) (by omega))
  have hge := grownCap_ge w (l.length + 1) l.length 22
  have hle := grownCap_le_maxLen w (l.length + 1) l.length 22 (by unfold maxLen; omega)
  have hfin := grown_own hown (m := [n]) (fun y hy => by simp at hy; subst hy; exact hn) hbase _ hge hle _ rfl
  exact Lib.wpList_append_run w hgd s x _ _ ho _ _ hs hx _ _ hr (h _ _ hfin.1 hfin.2)

/-- 'append(s, make([]uint64, k)...)' onto a full list of the call's own. -/
theorem append_zeros {w : World} {ops : Array Oper} {rest : List Oper} {o : Oper} {a : Act} {Q : Exit → Act → World → Prop} (hgd : o.guard = none) (s x : Operand)
    (ho : o.op = .call { callee := .builtin .append, args := #[s, x], argTypes := #[36, 3] })
    (base g : Nat) (l : List Int) (hs : a.eval s = .slice (some ⟨g, 0, none⟩) l.length l.length) (hown : Own w base (.slice (some ⟨g, 0, none⟩) l.length l.length) l) (k : Nat) (hk : 0 < k) (hk2 : k ≤ 1000000) (hx : a.eval x = .int .i64 k)
    (hl : l.length ≤ 1000000) (hbase : base ≤ w.heap.size)
    (h : ∀ c w', Own w' base (.slice (some ⟨w.heap.size, 0, none⟩) (l.length + k) c) (l ++ List.replicate k 0) → Below w.heap.size w w' → wpList Try.prog ops Q rest (a.put o.dst (.slice (some ⟨w.heap.size, 0, none⟩) (l.length + k) c)) w') : wpList Try.prog ops Q (o :: rest) a w := by
  obtain ⟨i0, hi, hz0, hz1, hz2⟩ := info_parts info_u64
  have hf := run_firstCells_some (P := Try.prog) w.drew 1 l.length ⟨g, 0, none⟩ l.length l.length (vs l) (by rw [vs_len]; omega) (by simpa using hown.row.cells (g := g) rfl)
  have hr := Lib.run_append_grow_zeros (P := Try.prog) w 36 3 o.type 22 i0 (.int .u64 0) .i64 .i64 Try.underlying36 Try.underlying3 hi hz0 (some ⟨g, 0, none⟩) l.length l.length (vs l) (by rw [hz1]; exact hf) k hk (by omega) (by omega) (by omega) (by rw [hz2]; omega)
    (by rw [hz2]; exact growslice_fits (by omega) (by omega))
  have hge := grownCap_ge w (l.length + k) l.length 22
  have hle := grownCap_le_maxLen w (l.length + k) l.length 22 (by unfold maxLen; omega)
  have hzc : Builtin.zeroCells (Value.int .u64 0).cells k = (vs (List.replicate k 0)).toArray := by
    apply Array.ext'
    show _ = vs (List.replicate k 0)
    rw [vs, List.map_replicate, List.eq_replicate_iff]
    simp [Builtin.zeroCells, Value.cells, Nat.mod_one]
  rw [hzc] at hr
  have hfin := grown_own hown (m := List.replicate k 0) (fun y hy => by rw [(List.mem_replicate.1 hy).2]; infer_instance) hbase _ (by rw [List.length_replicate]; exact hge) hle _ rfl
  rw [List.length_replicate] at hfin
  exact Lib.wpList_append_run w hgd s x _ _ ho _ _ hs hx _ _ hr (h _ _ hfin.1 hfin.2)
/-- Of the rows of D the first i are those of F. -/
def mixL (F D : List (List Int)) (i : Nat) : List (List Int) := F.take i ++ D.drop i
theorem mixL_len {F D : List (List Int)} {i : Nat} (h : F.length = D.length) (hi : i ≤ F.length) : (mixL F D i).length = D.length := by unfold mixL; rw [List.length_append, List.length_take, List.length_drop]; omega
theorem mixL_zero (F D : List (List Int)) : mixL F D 0 = D := by simp [mixL]
theorem mixL_all {F D : List (List Int)} (h : F.length = D.length) : mixL F D F.length = F := by unfold mixL; rw [List.take_length, h, List.drop_length, List.append_nil]
theorem mixL_at {F D : List (List Int)} {i : Nat} (h : F.length = D.length) (hi : i < D.length) (hm : i < (mixL F D i).length) : (mixL F D i)[i] = D[i] := by
  simp only [mixL]
  rw [List.getElem_append_right (by rw [List.length_take]; omega)]
  simp only [List.length_take, Nat.min_eq_left (show i ≤ F.length by omega), Nat.sub_self, List.getElem_drop, Nat.add_zero]
theorem mixL_set {F D : List (List Int)} {i : Nat} (h : F.length = D.length) (hi : i < F.length) : (mixL F D i).set i F[i] = mixL F D (i + 1) := by
  unfold mixL
  rw [List.take_succ_eq_append_getElem hi, List.set_append, if_neg (by rw [List.length_take]; omega), List.length_take, Nat.min_eq_left (by omega), Nat.sub_self, List.drop_eq_getElem_cons (show i < D.length by omega), List.set_cons_zero, List.append_assoc]
  rfl
end Go.Proofs.Ytdcdaclkeocfpaa

namespace Go.Proofs.Ytdcdaclkeocfpaa.Po
variable {q : Nat} [NeZero q]

omit [NeZero q] in
theorem aug_fun (n : Nat) (L : Nat → Nat → Fin q) : aug n L (fun i j => L i (n + j)) = L := funext fun i => funext fun j => by
  unfold aug
  by_cases h : j < n
  · rw [if_pos h]
  · rw [if_neg h]
    show L i (n + (j - n)) = _
    rw [show n + (j - n) = j by omega]
theorem Ops.cols {m : Nat} {M N : Nat → Nat → Fin q} (h : Ops m M N) (f : Nat → Nat) : Ops m (fun i j => M i (f j)) (fun i j => N i (f j)) := by
  induction h with
  | refl => exact .refl
  | swap _ h1 h2 h3 ih => exact ih.swap h1 h2 h3
  | scale _ h1 h2 ih => exact ih.scale h1 h2
  | add _ h1 h2 h3 ih => exact ih.add h1 h2 h3
theorem Part.narrow {m n : Nat} {R : Nat → Nat → Fin q} {c : List Nat} : ∀ d, Part m (n + d) R c → (∀ x ∈ c, x < n) → Part m n R c
  | 0, h, _ => h
  | d + 1, h, hc => Part.narrow d (Part.shrink (n := n + d) h fun hm => by have := hc _ hm; omega) hc
/-- With the identity beside it a matrix has as many pivots as rows. -/
theorem aug_full (h1 : (1 : Fin q) ≠ 0) {n : Nat} {L R : Nat → Nat → Fin q} {c : List Nat} (hE : ∀ i, i < n → ∀ j, j < n → L i (n + j) = one i j) (ho : Ops n L R) (hp : Part n (n + n) R c) : c.length = n := by
  have hl := hp.len
  rcases Nat.lt_or_ge c.length n with h | h
  · exfalso
    obtain ⟨u, v, huv, hd⟩ := (ho.cols (n + ·)).det
    rw [det_congr n (N := one) hE, det_one, det_zero_row (r := n - 1) (by omega) (fun i j => R i (n + j)) (fun j hj => hp.rest (n - 1) (by omega) (by omega) (n + j) (by omega))] at hd
    exact h1 (by rw [hd]; grind)
  · omega
/-- A pivot beyond the matrix: its determinant is 0. -/
theorem aug_det {n : Nat} {L R : Nat → Nat → Fin q} {c : List Nat} (hc : c.length = n) (ho : Ops n L R) (hp : Part n (n + n) R c) {k : Nat} (hk : k < c.length) (hkn : n ≤ c[k]) : det n L = 0 := by
  obtain ⟨u, v, huv, hd⟩ := ho.det
  have hz : ∀ j, j < n → R (n - 1) j = 0 := fun j hj => by
    refine hp.left (n - 1) (by omega) j ?_
    have : c[k] ≤ c[n - 1] := by
      rcases Nat.lt_or_ge k (n - 1) with h | h
      · exact Nat.le_of_lt (hp.get_lt (by omega) h)
      · have : k = n - 1 := by omega
        subst this; exact Nat.le_refl _
    omega
  rw [hd, det_zero_row (r := n - 1) (by omega) R hz]; grind
/-- All pivots in the matrix: what stands beside it is its inverse. -/
theorem aug_inv {n : Nat} {L R : Nat → Nat → Fin q} {c : List Nat} (hE : ∀ i, i < n → ∀ j, j < n → L i (n + j) = one i j) (hc : c.length = n) (ho : Ops n L R) (hp : Part n (n + n) R c) (hlt : ∀ x ∈ c, x < n) :
    (∀ t (h : t < c.length), c[t] = t) ∧ ∀ i, i < n → ∀ j, j < n → mul n (fun i j => R i (n + j)) L i j = one i j := by
  have hp2 := hp.narrow n hlt
  refine ⟨full_pivots hp2 hc, inv_aug (E := fun i j => L i (n + j)) (F := R) hE (full_one hp2 hc) fun z hz => ?_⟩
  rw [aug_fun] at hz ⊢
  exact (ho.ker (n + n) z).1 hz
end Go.Proofs.Ytdcdaclkeocfpaa.Po

namespace Go.Proofs.Ytdcdaclkeocfpaa
open Go.RowKit Go.BigFrame
open Classical

/-- The matrix with the identity beside it. -/
def augL (p : Int) (M : List (List Int)) : List (List Int) := (List.range M.length).map fun i => (redL p M).getD i [] ++ idRow M.length i
theorem augL_len (p : Int) (M : List (List Int)) : (augL p M).length = M.length := by simp [augL]
theorem augL_at {p : Int} {M : List (List Int)} {i : Nat} (h : i < (augL p M).length) (h2 : i < (redL p M).length) : (augL p M)[i] = (redL p M)[i] ++ idRow M.length i := by
  simp only [augL, List.getElem_map, List.getElem_range]
  rw [getD_row h2]
theorem idRow_len (n i : Nat) : (idRow n i).length = n := by simp [idRow]
theorem augL_mt {p : Int} {M : List (List Int)} (hok : OkM p M) (hs : M.length = cols M) : Mt p M.length (M.length + M.length) (augL p M) ∧ cols (augL p M) = M.length + M.length := by
  have hm := hok.mt
  have hp := known_lo hok.1
  have hrow : ∀ i (h : i < (augL p M).length), (augL p M)[i].length = M.length + M.length := fun i h => by
    have h2 : i < (redL p M).length := by rw [redL_len]; rw [augL_len] at h; exact h
    rw [augL_at h h2, List.length_append, hm.row i h2, idRow_len, ← hs]
  refine ⟨⟨augL_len p M, hrow, fun i h y hy => ?_⟩, ?_⟩
  · have h2 : i < (redL p M).length := by rw [redL_len]; rw [augL_len] at h; exact h
    rw [augL_at h h2] at hy
    rcases List.mem_append.1 hy with hy | hy
    · exact hm.red i h2 y hy
    · simp only [idRow, List.mem_map] at hy
      obtain ⟨j, _, rfl⟩ := hy
      split <;> omega
  · by_cases h : 0 < M.length
    · rw [cols_at (by rw [augL_len]; exact h), hrow]
    · have h2 : augL p M = [] := List.length_eq_zero_iff.1 (by rw [augL_len]; omega)
      rw [h2]
      simp only [cols, List.getD_nil, List.length_nil]
      omega
theorem mf_aug {p : Int} {M : List (List Int)} (hok : OkM p M) (hs : M.length = cols M) {i j : Nat} (hi : i < M.length) (hj : j < M.length) :
    mf p (augL p M) i j = mf p M i j ∧ mf p (augL p M) i (M.length + j) = Po.one i j := by
  have h1 : i < (augL p M).length := by rw [augL_len]; exact hi
  have h2 : i < (redL p M).length := by rw [redL_len]; exact hi
  have hl := hok.mt.row i h2
  constructor
  · rw [← mf_redL hok.1 M, mf_row h1, mf_row h2, augL_at h1 h2]
    simp only [List.getD]
    rw [List.getElem?_append_left (by omega)]
  · rw [mf_row h1, augL_at h1 h2]
    simp only [List.getD]
    rw [List.getElem?_append_right (by omega), hl, show M.length + j - cols M = j by omega]
    simp only [idRow, List.getElem?_map, List.getElem?_range hj, Option.map_some, Option.getD_some]
    unfold Po.one
    split
    · exact ph_one hok.1
    · exact ph_zero hok.1
theorem InvOf.aug {p : Int} {M R : List (List Int)} {c : List Nat} (hok : OkM p M) (hs : M.length = cols M) (h : Elm p (augL p M) (M.length + M.length) R c) :
    c.length = M.length ∧ (∀ k (hk : k < c.length), M.length ≤ c[k] → InvOf p M false []) ∧ ((∀ x ∈ c, x < M.length) → (∀ t (h : t < c.length), c[t] = t) ∧ InvOf p M true (R.map (·.drop M.length))) := by
  obtain ⟨hmt, hp, ho⟩ := h
  rw [augL_len] at hmt hp ho
  have hc := Po.aug_full (one_nz hok.1) (fun i hi j hj => (mf_aug hok hs hi hj).2) ho hp
  have hd : Po.det M.length (mf p (augL p M)) = Po.det M.length (mf p M) := Po.det_congr _ fun i hi j hj => (mf_aug hok hs hi hj).1
  refine ⟨hc, fun k hk hkn => ⟨fun h => absurd ⟨hok, hs⟩ h, fun _ _ => .inr ⟨rfl, rfl, ?_⟩⟩, fun hlt => ?_⟩
  · rw [← hd]; exact Po.aug_det hc ho hp hk hkn
  · obtain ⟨h1, h2⟩ := Po.aug_inv (fun i hi j hj => (mf_aug hok hs hi hj).2) hc ho hp hlt
    refine ⟨h1, fun h => absurd ⟨hok, hs⟩ h, fun _ _ => .inl ⟨rfl, ⟨by rw [List.length_map]; exact hmt.len, fun i hi => ?_, fun i hi y hy => ?_⟩, fun i hi j hj => ?_⟩⟩
    · rw [List.length_map] at hi
      rw [List.getElem_map, List.length_drop, hmt.row i hi]; omega
    · rw [List.length_map] at hi
      rw [List.getElem_map] at hy
      exact hmt.red i hi y (List.mem_of_mem_drop hy)
    · rw [← h2 i hi j hj]
      refine Po.mul_congr (fun l hl => ?_) fun l hl => ((mf_aug hok hs hl hj).1).symm
      have hir : i < R.length := by rw [hmt.len]; exact hi
      show mf p _ i l = mf p R i (M.length + l)
      rw [mf_row (by rw [List.length_map]; exact hir), mf_row hir, List.getElem_map]
      simp only [List.getD, List.getElem?_drop]
theorem Lst.dropN {w : World} {b o c : Nat} {l : List Int} (h : Lst w (.slice (some ⟨b, o, none⟩) l.length c) l) (n : Nat) (hn : n ≤ l.length) : Lst w (.slice (some ⟨b, o + n, none⟩) (l.length - n) (c - n)) (l.drop n) := by
  have hl : (l.drop n).length = l.length - n := by simp
  refine ⟨.inr ⟨_, _, by rw [hl]⟩, fun i hi => ?_, fun x hx => h.us x (List.mem_of_mem_drop hx), fun a n' c' e => ?_⟩
  · rw [hl] at hi
    obtain ⟨b1, o1, c1, e1, hc⟩ := h.cells (n + i) (by omega)
    obtain ⟨⟨rfl, rfl⟩, rfl⟩ : (b = b1 ∧ o = o1) ∧ c = c1 := by simp at e1; exact e1
    refine ⟨b, o + n, c - n, by rw [hl], ?_⟩
    rw [show o + n + i = o + (n + i) by omega, hc]
    simp
  · have hr := h.room _ _ _ rfl
    cases e; omega
end Go.Proofs.Ytdcdaclkeocfpaa

namespace Go.Proofs.Ytdcdaclkeocfpaa
open Go.RowKit Go.BigFrame
open Classical

theorem OwnM.shapeAt {w : World} {base : Nat} {v : Value} {rs : Nat → Value} {L : List (List Int)} (h : OwnM w base v rs L) (h0 : 0 < L.length) : ∃ g cap, v = .slice (some ⟨g, 0, none⟩) L.length cap ∧ base ≤ g ∧ g < w.heap.size := by
  rcases h.cases with ⟨_, e⟩ | ⟨g, cap, e, hb, hg, _⟩
  · rw [e] at h0; simp at h0
  · exact ⟨g, cap, e, hb, hg⟩

set_option maxRecDepth 100000 in
set_option maxHeartbeats 16000000 in
theorem mSolve_o (p : Int) [hpU : U p] (v va : Value) (M : List (List Int)) (V : List Int) (w : World) (hM : MatR w v M) (hV : Lst w va V) (hn : M.length ≤ 100) (hr : ∀ i (h : i < M.length), M[i].length ≤ 100) (hv : V.length ≤ 100) :
    Calls Try.prog 23 #[.agg #[.int .u64 p], v, va] w fun e w' => ∃ v1 fb X, e = .returned (.tuple #[v1, .bool fb]) ∧ Own w' w.heap.size v1 X ∧ SolOf p M V fb X ∧ Below w.heap.size w w' := by
  obtain ⟨a0, c0, rfl⟩ := hM.shape
  obtain ⟨a1, c1, rfl⟩ := hV.shape
  have HM := Lib.hid (And.intro hM (And.intro hr hV))
  clear hM hr hV
  have hb0 : Below w.heap.size w (w.alloc (.cells #[.int .u64 p] 27)) := Below.made (Nat.le_refl _) (Below.refl _ _) _
  have hf0 : (w.alloc (.cells #[.int .u64 p] 27)).cell? ⟨w.heap.size, 0, none⟩ = some (.int .u64 p) := by go_simp
  have HB := Lib.hid (And.intro hb0 hf0)
  clear hb0 hf0
  by_cases hok : OkM p M
  · have hd : decide (OkM p M) = true := decide_eq_true hok
    have h64 := hok.2.2
    have hc64 := hok.2.cols
    by_cases hl : V.length = M.length
    · have hne : ((V.length : Int) != (M.length : Int)) = false := by rw [hl]; simp
      have i1 : (M.length : Int) ≤ 64 := by omega
      have i1v : (V.length : Int) ≤ 64 := by omega
      have i2 : (cols M : Int) ≤ 64 := by omega
      obtain ⟨D, hD⟩ : ∃ D, D = redL p M := ⟨_, rfl⟩
      obtain ⟨F, hF⟩ : ∃ F, F = redL p (wideL M V) := ⟨_, rfl⟩
      have hDl : D.length = V.length := by rw [hD, redL_len, hl]
      have hFl : F.length = D.length := by rw [hF, redL_len, wideL_len, hDl, hl]
      have hFi : ∀ i (h : i < F.length) (h2 : i < D.length) (h3 : i < V.length), F[i] = D[i] ++ [V[i] % p] := fun i h h2 h3 => by
        subst hF hD
        have h4 : i < M.length := by omega
        rw [redL_at, redL_at]
        simp [wideL, h3, h4]
      have hDr : ∀ i (h : i < D.length) (h4 : i < M.length), D[i].length = M[i].length := fun i h h4 => by subst hD; rw [redL_at]; simp
      have HK := Lib.hid (And.intro hok (And.intro hd (And.intro hl (And.intro hDl (And.intro hFl (And.intro hFi (And.intro hDr (And.intro hD hF))))))))
      clear hok hd hl hD hF hFi hDr
      go_enter Try.func23, Try.ntmps23
      go_wp2_with (first
        | (go_at_call 61; refine (musable_u p _ M _ (HM.out.1.hold HB.out.1) (by omega) (fun i h => Nat.le_trans (HM.out.2.1 i h) (by decide))).mono ?_; rintro _ w1 ⟨rfl, hb1⟩; rw [HK.out.2.1]
           have hb1' := Below.next (Nat.le_refl _) HB.out.1 hb1.b
           have hf1 := hb1.hold HB.out.2
           have hs1 : w.heap.size + 1 ≤ w1.heap.size := by have := hb1.b.size; simpa using this)
        | (go_at_call 62; refine (mcopyOf_w p HK.out.1.1 _ M _ (HM.out.1.hold hb1') hn HM.out.2.1).mono ?_; rintro _ w2 ⟨v2, rs2, rfl, hm2, hex2, hsz2, hb2⟩
           have hb2' := Below.next (Nat.le_refl _) hb1' hb2
           have hf2 := Below.hold hb2 hf1))
      obtain ⟨B1, hB1⟩ : ∃ B1, B1 = w1.heap.size + 1 := ⟨_, rfl⟩
      rw [← hB1] at hm2 hsz2
      have hBw : w.heap.size + 1 ≤ B1 := by omega
      rw [← HK.out.2.2.2.2.2.2.2.1] at hm2
      have HO := Lib.hid (And.intro hm2 (And.intro hex2 (And.intro hsz2 (And.intro hb2' hf2))))
      clear hm2 hex2 hsz2 hb2 hb2' hf2 hB1 hb1 hb1' hf1 hs1
      go_loopw [33] (fun iv wr => ∃ (i : Nat) (rs : Nat → Value), iv = .int .i64 i ∧ i ≤ V.length ∧ OwnM wr B1 v2 rs (mixL F D i) ∧ (∀ k (h : k < M.length), i ≤ k → ∃ g, rs k = .slice (some ⟨g, 0, none⟩) M[k].length M[k].length) ∧ wr.cell? ⟨w.heap.size, 0, none⟩ = some (.int .u64 p) ∧ Below w.heap.size w wr ∧ B1 ≤ wr.heap.size) (fun iv _ => V.length - (intOf iv).toNat)
      case atStart => exact ⟨0, rs2, rfl, Nat.zero_le _, by rw [mixL_zero]; exact HO.out.1, fun k h _ => HO.out.2.1 k h, HO.out.2.2.2.2, HO.out.2.2.2.1, HO.out.2.2.1⟩
      case round =>
        obtain ⟨i, rs, rfl, hi, hown, hex, hbx, hb, hsr⟩ := hrel
        have i0 : (0 : Int) ≤ (i : Int) := by omega
        by_cases hlt : i < V.length
        · have hiM : i < M.length := by have := HK.out.2.2.1; omega
          have hiD : i < D.length := by omega
          have hSl : (mixL F D i).length = V.length := by rw [mixL_len hFl (by omega)]; exact hDl
          have hFS := mixL_set (F := F) (D := D) (i := i) hFl (by omega)
          rw [HK.out.2.2.2.2.2.1 i (by omega) hiD hlt] at hFS
          have hSi := mixL_at (F := F) (D := D) (i := i) hFl hiD (by rw [hSl]; exact hlt)
          have hDr := HK.out.2.2.2.2.2.2.1 i hiD hiM
          obtain ⟨g0, cap0, e0, hg0, hg0w⟩ := hown.shapeAt (by rw [hSl]; omega)
          rw [hSl] at e0
          subst e0
          obtain ⟨gr, hrr⟩ := hex i hiM (Nat.le_refl _)
          obtain ⟨S, hS⟩ : ∃ S, S = mixL F D i := ⟨_, rfl⟩
          rw [← hS] at hown hFS hSl
          have hoR := hown.row i (by omega)
          have hoR2 : Own wr B1 (.slice (some ⟨gr, 0, none⟩) M[i].length M[i].length) D[i] := by
            subst hS
            rw [hSi, hrr] at hoR; exact hoR
          obtain ⟨R, hR⟩ : ∃ R, R = D[i] := ⟨_, rfl⟩
          rw [← hR] at hFS hoR2 hDr
          have hrl := HM.out.2.1 i hiM
          rw [← hDr] at hoR2 hrl hrr
          obtain ⟨b2, o2, cx, e2, hcv⟩ := (HM.out.2.2.hold hb).cells i hlt
          obtain ⟨rfl, rfl⟩ : a1 = some ⟨b2, o2, none⟩ ∧ c1 = cx := by simp at e2; exact e2
          have hux := HM.out.2.2.us V[i] (List.getElem_mem hlt)
          have hrd : rd p V[i] = V[i] % p := by rw [rd, if_pos HK.out.1.1]
          rw [← hrd] at hFS
          obtain ⟨x, hx⟩ : ∃ x, x = V[i] := ⟨_, rfl⟩
          rw [← hx] at hcv hux hFS
          have hco := hown.out (i := i) (by omega) hrr
          have hzi := hown.thawed i
          have i3 : (i : Int) < (V.length : Int) := by omega
          have HW := Lib.hid (And.intro hown (And.intro hb (And.intro hFS (And.intro hSl (And.intro hoR2 (And.intro hex (And.intro hsr (And.intro hrr hrl))))))))
          clear hown hFS hSl hoR hoR2 hR hx hex hSi hDr hS e2 hrd hrr
          go_wp2_with fail
          have hbl : wr.heap.size ≠ w.heap.size := by omega
          have hg0n : g0 ≠ w.heap.size := by omega
          obtain ⟨W, hWW⟩ : ∃ W, W = wr := ⟨_, rfl⟩
          rw [← hWW] at hbx hco hzi hcv hg0w hb HW ⊢
          clear hWW
          refine wp_region_k 12 (fun w' => w'.cell? ⟨w.heap.size, 0, none⟩ = some (.int .u64 p) ∧ w'.cell? ⟨g0, i, none⟩ = some (.slice (some ⟨gr, 0, none⟩) R.length R.length)) (by kernel_rfl) ?_
          have hS : W.drew.cell? ⟨w.heap.size, 0, none⟩ = some (.int .u64 p) ∧ W.drew.cell? ⟨g0, i, none⟩ = some (.slice (some ⟨gr, 0, none⟩) R.length R.length) := ⟨hbx, hco⟩
          refine wpAnyK_take 0 (.slice (some ⟨g0, 0, none⟩) V.length cap0) (some 38) (oi := ?oi0) ?hi0 ?hd0 (by kernel_rfl) (by kernel_rfl) (by kernel_rfl) (by kernel_rfl) (fun _ _ _ h => h) ?hy0 hS ?rest0
          case hi0 => simp only [List.getElem?_toArray, List.getElem?_cons_zero]; rfl
          case hd0 => rfl
          case hy0 => exact .inl ⟨by rfl, fun w h => by (obtain ⟨h1, h2⟩ := h; go_simp)⟩
          simp only [Act.put, List.setIfInBounds_toArray, List.set_cons_zero, List.set_cons_succ]
          refine wpAnyK_take 1 (.int .i64 i) (some 39) (oi := ?oi1) ?hi1 ?hd1 (by kernel_rfl) (by kernel_rfl) (by kernel_rfl) (by kernel_rfl) (fun _ _ _ h => h) ?hy1 hS ?rest1
          case hi1 => simp only [List.getElem?_toArray, List.getElem?_cons_succ, List.getElem?_cons_zero]; rfl
          case hd1 => rfl
          case hy1 => exact .inl ⟨by rfl, fun w h => by (obtain ⟨h1, h2⟩ := h; go_simp)⟩
          simp only [Act.put, List.setIfInBounds_toArray, List.set_cons_zero, List.set_cons_succ]
          refine wpAnyK_take 2 (.slice (some ⟨g0, 0, none⟩) V.length cap0) (some 40) (oi := ?oi2) ?hi2 ?hd2 (by kernel_rfl) (by kernel_rfl) (by kernel_rfl) (by kernel_rfl) (fun _ _ _ h => h) ?hy2 hS ?rest2
          case hi2 => simp only [List.getElem?_toArray, List.getElem?_cons_succ, List.getElem?_cons_zero]; rfl
          case hd2 => rfl
          case hy2 => exact .inl ⟨by rfl, fun w h => by (obtain ⟨h1, h2⟩ := h; go_simp)⟩
          simp only [Act.put, List.setIfInBounds_toArray, List.set_cons_zero, List.set_cons_succ]
          refine wpAnyK_take 3 (.int .i64 i) (some 41) (oi := ?oi3) ?hi3 ?hd3 (by kernel_rfl) (by kernel_rfl) (by kernel_rfl) (by kernel_rfl) (fun _ _ _ h => h) ?hy3 hS ?rest3
          case hi3 => simp only [List.getElem?_toArray, List.getElem?_cons_succ, List.getElem?_cons_zero]; rfl
          case hd3 => rfl
          case hy3 => exact .inl ⟨by rfl, fun w h => by (obtain ⟨h1, h2⟩ := h; go_simp)⟩
          simp only [Act.put, List.setIfInBounds_toArray, List.set_cons_zero, List.set_cons_succ]
          refine wpAnyK_take 4 (.pointer (some ⟨g0, i, none⟩)) (some 42) (oi := ?oi4) ?hi4 ?hd4 (by kernel_rfl) (by kernel_rfl) (by kernel_rfl) (by kernel_rfl) (fun _ _ _ h => h) ?hy4 hS ?rest4
          case hi4 => simp only [List.getElem?_toArray, List.getElem?_cons_succ, List.getElem?_cons_zero]; rfl
          case hd4 => rfl
          case hy4 => exact .inl ⟨by rfl, fun w h => by (obtain ⟨h1, h2⟩ := h; go_simp)⟩
          simp only [Act.put, List.setIfInBounds_toArray, List.set_cons_zero, List.set_cons_succ]
          refine wpAnyK_take 5 (.slice (some ⟨gr, 0, none⟩) R.length R.length) (some 43) (oi := ?oi5) ?hi5 ?hd5 (by kernel_rfl) (by kernel_rfl) (by kernel_rfl) (by kernel_rfl) (fun _ _ _ h => h) ?hy5 hS ?rest5
          case hi5 => simp only [List.getElem?_toArray, List.getElem?_cons_succ, List.getElem?_cons_zero]; rfl
          case hd5 => rfl
          case hy5 => exact .inl ⟨by rfl, fun w h => by (obtain ⟨h1, h2⟩ := h; go_simp)⟩
          simp only [Act.put, List.setIfInBounds_toArray, List.set_cons_zero, List.set_cons_succ]
          refine wpAnyK_take 6 (.agg #[.int .u64 p]) (some 44) (oi := ?oi6) ?hi6 ?hd6 (by kernel_rfl) (by kernel_rfl) (by kernel_rfl) (by kernel_rfl) (fun _ _ _ h => h) ?hy6 hS ?rest6
          case hi6 => simp only [List.getElem?_toArray, List.getElem?_cons_succ, List.getElem?_cons_zero]; rfl
          case hd6 => rfl
          case hy6 => exact .inl ⟨by rfl, fun w h => by (obtain ⟨h1, h2⟩ := h; go_simp)⟩
          simp only [Act.put, List.setIfInBounds_toArray, List.set_cons_zero, List.set_cons_succ]
          refine wpAnyK_take 7 (.int .u64 x) (some 45) (oi := ?oi7) ?hi7 ?hd7 (by kernel_rfl) (by kernel_rfl) (by kernel_rfl) (by kernel_rfl) (fun _ _ _ h => h) ?hy7 hS ?rest7
          case hi7 => simp only [List.getElem?_toArray, List.getElem?_cons_succ, List.getElem?_cons_zero]; rfl
          case hd7 => rfl
          case hy7 => exact .inl ⟨by rfl, fun w h => by (obtain ⟨h1, h2⟩ := h; go_simp)⟩
          simp only [Act.put, List.setIfInBounds_toArray, List.set_cons_zero, List.set_cons_succ]
          refine wpAnyK_one 8 (oi := ?oi8) ?hi8 ?hg8 (by kernel_rfl) ?rest8
          case hi8 => simp only [List.getElem?_toArray, List.getElem?_cons_succ, List.getElem?_cons_zero]; rfl
          case hg8 => rfl
          go_wp2_with (go_at_call 56; refine (fReduce_u p x _).mono ?_; rintro _ w2 ⟨rfl, hb2⟩)
          have hs2 : Below W.heap.size W w2 := Below.next (Nat.le_refl _) (Below.drew (Below.refl _ _)) hb2.b
          refine ⟨⟨Below.hold hs2 hbx, Below.hold hs2 hco⟩, ?_⟩
          have ho2 := HW.out.2.2.2.2.1.hold hs2
          refine wpAnyK_one 9 (oi := ?oi9) ?hi9 ?hg9 (by kernel_rfl) ?rest9
          case hi9 => simp only [List.getElem?_toArray, List.getElem?_cons_succ, List.getElem?_cons_zero]; rfl
          case hg9 => rfl
          go_wp2
          have hs3 : Below W.heap.size W (w2.alloc (.cells #[.int .u64 (rd p x)] 22)) := Below.made (Nat.le_refl _) hs2 _
          refine ⟨⟨Below.hold hs3 hbx, Below.hold hs3 hco⟩, ?_⟩
          refine wpAnyK_one 10 (oi := ?oi10) ?hi10 ?hg10 (by kernel_rfl) ?rest10
          case hi10 => simp only [List.getElem?_toArray, List.getElem?_cons_succ, List.getElem?_cons_zero]; rfl
          case hg10 => rfl
          go_wp2_with (at_builtin; refine append_full rfl (.tmp 43) (.tmp 47) rfl B1 gr R rfl (HW.out.2.2.2.2.1.hold hs3) (rd p x) inferInstance w2.heap.size rfl (by go_simp) (by have := HW.out.2.2.2.2.2.2.2.2; omega) (Nat.le_trans HW.out.2.2.2.2.2.2.1 hs3.size) ?_; intro c3 w4 hown4 hb4)
          have hs4 : Below W.heap.size W w4 := Below.trans hs3 (hb4.mono hs3.size)
          refine ⟨⟨Below.hold hs4 hbx, Below.hold hs4 hco⟩, ?_⟩
          have hco4 := Below.hold hs4 hco
          have hzi4 := (HW.out.1.hold hs4).thawed i
          simp only [World.size_alloc] at hown4
          obtain ⟨G, hG⟩ : ∃ G, G = w2.heap.size + 1 := ⟨_, rfl⟩
          rw [← hG] at hown4 ⊢
          have hGW : W.heap.size ≤ G := by have := hs2.size; omega
          have HX := Lib.hid (And.intro hown4 hs4)
          clear hG hown4 hb4 hs3 hs2 hb2 ho2 hS
          refine wpAnyK_one 11 (oi := ?oi11) ?hi11 ?hg11 (by kernel_rfl) ?rest11
          case hi11 => simp only [List.getElem?_toArray, List.getElem?_cons_succ, List.getElem?_cons_zero]; rfl
          case hg11 => rfl
          go_wp2
          refine ⟨Below.hold HX.out.2 hbx, ?_⟩
          refine wpAnyK_one 12 (oi := ?oi12) ?hi12 ?hg12 (by kernel_rfl) ?rest12
          case hi12 => simp only [List.getElem?_toArray, List.getElem?_cons_succ, List.getElem?_cons_zero]; rfl
          case hg12 => rfl
          go_wp2
          refine wpAnyK_done (by kernel_rfl) ?_ _
          go_wp2
          have hst := (HW.out.1.hold HX.out.2).setRow (i := i) HX.out.1 (fun k hk _ b hb e2 => by
            have h1 := ((HW.out.1.row k hk).row.lt b hb).2
            have e3 : G = b := by simpa [Value.ownBlock] using e2
            omega) (fun e2 => by
            have e3 : G = g0 := by simpa [Value.ownBlock] using e2
            omega)
          rw [HW.out.2.2.1] at hst
          have hB4 : Below w.heap.size w w4 := Below.next (Nat.le_refl _) hb HX.out.2
          have hB5 : Below w.heap.size w _ := OwnM.wroteO hB4 (by omega) hB4.size (HW.out.1.hold HX.out.2) hst.2
          refine ⟨⟨i + 1, _, by go_num, by omega, hst.1, fun k h hk => ?_, ?_, hB5, ?_⟩, by simp [intOf]; omega⟩
          · rw [rsSet_off rs _ (by omega)]; exact HW.out.2.2.2.2.2.1 k h (by omega)
          · rw [World.cell?_setCell_far _ _ _ _ (by show g0 ≠ w.heap.size; omega)]; exact Below.hold HX.out.2 hbx
          · have h1 := HW.out.2.2.2.2.2.2.1
            have h2 := HX.out.2.size
            simp; omega
        · obtain rfl : i = V.length := by omega
          have hFF : mixL F D V.length = F := by rw [← hDl, ← hFl]; exact mixL_all hFl
          rw [hFF] at hown
          have hcw : ∀ h : 0 < M.length, cols (wideL M V) = cols M + 1 := fun h => cols_wideL HK.out.1.2 h
          have hrw : ∀ i (h : i < (wideL M V).length), (wideL M V)[i].length = cols (wideL M V) := fun i h => by
            rw [hcw (by rw [wideL_len] at h; omega)]
            exact wideL_rows HK.out.1.2 i h
          have hcl : cols (wideL M V) ≤ 65 := by
            by_cases h : 0 < M.length
            · rw [hcw h]; omega
            · have h1 := wideL_len M V
              have h2 : wideL M V = [] := List.length_eq_zero_iff.1 (by omega)
              rw [h2]; simp [cols]
          have hmtF : Mt p M.length (cols (wideL M V)) F := by
            have h := Mt.redL HK.out.1.1 hrw
            rw [wideL_len] at h
            rw [HK.out.2.2.2.2.2.2.2.2]; exact h
          have hcF : cols F = cols (wideL M V) := by rw [HK.out.2.2.2.2.2.2.2.2]; exact cols_redL _ _
          have HW := Lib.hid (And.intro hown (And.intro hb (And.intro hmtF (And.intro hcF (And.intro hcw hsr)))))
          clear hown hb hmtF hcF hcw hrw hex hFF hlt hi hsr
          go_upto_region 10 with (go_at_call 63; refine (meliminate_w p HK.out.1.1 B1 v2 rs F M.length (cols (wideL M V)) _ HW.out.1 HW.out.2.2.1 HW.out.2.2.2.1 (by omega) (by omega) HW.out.2.2.2.2.2).mono ?_; rintro _ wz ⟨vp, rsR, R, c, fac, rfl, hmR, hcR, helm, -, -, hbz⟩)
          obtain ⟨aR, cR, rfl⟩ := hmR.matR.shape
          obtain ⟨ac, cc, rfl⟩ := hcR.lst.shape
          have helm2 : Elm p (wideL M V) (cols (wideL M V)) R c := by
            have h := helm
            rw [HK.out.2.2.2.2.2.2.2.2] at h
            exact h.of_red HK.out.1.1
          have hRl : R.length = M.length := by rw [helm2.mt.len, wideL_len]
          have i5 : c.length ≤ M.length := by have := helm2.part.len; rw [wideL_len] at this; exact this
          have HZ := Lib.hid (And.intro hmR.matR (And.intro hcR.lst (And.intro helm2 (And.intro (HW.out.2.1.trans (hbz.mono (by omega))) hRl))))
          clear hmR hcR helm helm2 hbz hRl
          go_wp2_with (first
            | (go_at_call 66; refine (mcolumns_u _ M _ (HM.out.1.hold HZ.out.2.2.2.1) (by omega)).mono ?_; rintro e wq ⟨rfl, hwq⟩; obtain rfl : wz = wq := hwq.symm)
            | (at_make; refine make_zeros rfl (.tmp 59) (.tmp 59) rfl wz.heap.size (cols M) rfl rfl (by omega) (Nat.le_refl _) ?_; intro vx wx hownx hvx hbx2; subst hvx))
          have HX := Lib.hid (And.intro hownx hbx2)
          clear hownx hbx2 hwq
          rename World => wx
          obtain ⟨gx, hgx⟩ : ∃ gx, gx = wz.heap.size := ⟨_, rfl⟩
          rw [← hgx] at HX ⊢
          have hbz := HZ.out.2.2.2.1.size
          have hgw : w.heap.size ≤ gx := by omega
          have HXZ := Lib.hid (show Below gx wz wx from HX.out.2)
          have HGX := Lib.hid hgx
          clear hgx hbz
          go_loopw [63] (fun iv wr => ∃ i : Nat, iv = .int .i64 i ∧ i ≤ c.length ∧ cols M ∉ c.take i ∧ Own wr gx (.slice (some ⟨gx, 0, none⟩) (cols M) (cols M)) (sx R c (cols M) i) ∧ Below gx wz wr) (fun iv _ => c.length - (intOf iv).toNat)
          case atStart => exact ⟨0, rfl, Nat.zero_le _, by simp, HX.out.1, HX.out.2⟩
          case round =>
            obtain ⟨i, rfl, hi, hni, hx, hbi⟩ := hrel
            have hbi2 : Below wz.heap.size wz wr := by rw [← HGX.out]; exact hbi
            have i3 : (0 : Int) ≤ (i : Int) := by omega
            by_cases hlc : i < c.length
            · have i4 : (i : Int) < (c.length : Int) := by omega
              have hcw := HW.out.2.2.2.2.1 (by omega)
              have hRi : i < R.length := by have h1 := HZ.out.2.2.2.2; omega
              obtain ⟨b, o, c1, rv, e, hcr, hlr⟩ := (HZ.out.1.hold hbi2).rows i hRi
              obtain ⟨rfl, rfl⟩ : aR = some ⟨b, o, none⟩ ∧ cR = c1 := by simp at e; exact e
              obtain ⟨b2, o2, c2, e2, hcp⟩ := (HZ.out.2.1.hold hbi2).cells i hlc
              obtain ⟨rfl, rfl⟩ : ac = some ⟨b2, o2, none⟩ ∧ cc = c2 := by simp at e2; exact e2
              have hrl := HZ.out.2.2.1.mt.row i hRi
              have hcn := HZ.out.2.2.1.part.lt i hlc
              by_cases htn : c[i] = cols M
              · have i8 : ((c[i] : Int) == (cols M : Int)) = true := by simp [htn]
                have hmem : cols M ∈ c := by rw [← htn]; exact List.getElem_mem hlc
                rw [htn] at hcp
                have HV := Lib.hid (And.intro hmem (Below.next (Nat.le_refl _) HZ.out.2.2.2.1 hbi2))
                clear hx hbi hbi2 hni hmem htn i8 e e2 hcr hlr hrl hcn hcw hRi
                go_wp2_with fail
                refine bodyPost_ret (results_tmp2 rfl _ _ _) rfl ?_
                exact ⟨_, false, [], rfl, Own.nil _ _, ⟨fun _ => ⟨rfl, rfl⟩, fun _ _ => ⟨R, c, HZ.out.2.2.1, .inr ⟨rfl, rfl, HV.out.1⟩⟩⟩, HV.out.2⟩
              · have hni2 : cols M ∉ c.take (i + 1) := by
                  rw [List.take_succ_eq_append_getElem hlc]
                  simp only [List.mem_append, List.mem_singleton, not_or]
                  exact ⟨hni, fun e => htn e.symm⟩
                have hcm : c[i] < cols M := by omega
                obtain ⟨b3, o3, c3, e3, hcx⟩ := hlr.cells (cols M) (by omega)
                rw [e3] at hcr
                have hux := hlr.us (R[i][cols M]'(by omega)) (List.getElem_mem _)
                have hsx : sx R c (cols M) (i + 1) = (sx R c (cols M) i).set c[i] (R[i][cols M]'(by omega)) := by
                  rw [sx, Po.getD_nat hlc, getD_row hRi, getD_lt _ (by omega)]
                have hcell := hx.cell (i := c[i]) (by rw [sx_len]; exact hcm)
                have hthaw := hx.thawed c[i]
                obtain ⟨x0, hx0⟩ : ∃ x0, x0 = (sx R c (cols M) i)[c[i]]'(by rw [sx_len]; exact hcm) := ⟨_, rfl⟩
                rw [← hx0] at hcell
                clear hx0
                obtain ⟨y, hy⟩ : ∃ y, y = R[i][cols M]'(by omega) := ⟨_, rfl⟩
                rw [← hy] at hux hcx hsx
                obtain ⟨t, ht⟩ : ∃ t, t = c[i] := ⟨_, rfl⟩
                rw [← ht] at hcp hsx hcell hthaw hcm htn
                have i5 : (0 : Int) ≤ (t : Int) := by omega
                have i6 : (t : Int) < (cols M : Int) := by omega
                have i7 : (i : Int) < (R.length : Int) := by omega
                have i8 : ((t : Int) == (cols M : Int)) = false := by simp; omega
                have i9 : (cols M : Int) < (R[i].length : Int) := by omega
                obtain ⟨lr, hlr2⟩ : ∃ lr, lr = R[i].length := ⟨_, rfl⟩
                rw [← hlr2] at hcr i9
                have hs := hx.set t y
                rw [← hsx] at hs
                have HSet := Lib.hid (And.intro hs.1 (And.intro (Below.wrote hbi (Nat.le_refl _) (by have := hbi.size; have := HGX.out; omega) hx hs.2) hni2))
                clear hx hbi hbi2 hsx hni2 hni hy ht e e2 e3 hlr hrl hRi hcn hcw htn hlr2 hs
                go_wp2_with fail
                exact ⟨⟨i + 1, by go_num, by omega, HSet.out.2.2, HSet.out.1, HSet.out.2.1⟩, by simp [intOf]; omega⟩
            · obtain rfl : c.length = i := by omega
              rw [List.take_of_length_le (Nat.le_refl _)] at hni
              have HV := Lib.hid (And.intro hx (And.intro hni (Below.next (Nat.le_refl _) HZ.out.2.2.2.1 hbi2)))
              clear hx hni hbi hbi2
              go_wp2_with fail
              refine bodyPost_ret (results_tmp2 rfl _ _ _) rfl ?_
              exact ⟨_, true, _, rfl, HV.out.1.low hgw, ⟨fun h => absurd ⟨HK.out.1, HK.out.2.2.1⟩ h, fun _ _ => ⟨R, c, HZ.out.2.2.1, .inl ⟨rfl, HV.out.2.1, rfl⟩⟩⟩, HV.out.2.2⟩
    · have hne : ((V.length : Int) != (M.length : Int)) = true := bne_iff_ne.2 (show (V.length : Int) ≠ (M.length : Int) by omega)
      have HK := Lib.hid (And.intro hd hl)
      clear hok hd hl
      go_enter Try.func23, Try.ntmps23
      go_wp2_with (first
        | (go_at_call 61; refine (musable_u p _ M _ (HM.out.1.hold HB.out.1) (by omega) (fun i h => Nat.le_trans (HM.out.2.1 i h) (by decide))).mono ?_; rintro _ w1 ⟨rfl, hb1⟩; rw [HK.out.1]))
      refine bodyPost_ret (results_tmp2 rfl _ _ _) rfl ?_
      exact ⟨_, false, [], rfl, Own.nil _ _, ⟨fun _ => ⟨rfl, rfl⟩, fun _ h => absurd h HK.out.2⟩, Below.next (Nat.le_refl _) HB.out.1 hb1.b⟩
  · have hd : decide (OkM p M) = false := decide_eq_false hok
    have HK := Lib.hid (And.intro hd hok)
    clear hd hok
    go_enter Try.func23, Try.ntmps23
    go_wp2_with (first
      | (go_at_call 61; refine (musable_u p _ M _ (HM.out.1.hold HB.out.1) (by omega) (fun i h => Nat.le_trans (HM.out.2.1 i h) (by decide))).mono ?_; rintro _ w1 ⟨rfl, hb1⟩; rw [HK.out.1]))
    refine bodyPost_ret (results_tmp2 rfl _ _ _) rfl ?_
    exact ⟨_, false, [], rfl, Own.nil _ _, ⟨fun _ => ⟨rfl, rfl⟩, fun h _ => absurd h HK.out.2⟩, Below.next (Nat.le_refl _) HB.out.1 hb1.b⟩

theorem mSolve_p (p : Int) [hpU : U p] (v va : Value) (M : List (List Int)) (V : List Int) (w : World) (hM : MatR w v M) (hV : Lst w va V) (hn : M.length ≤ 100) (hr : ∀ i (h : i < M.length), M[i].length ≤ 100) (hv : V.length ≤ 100) :
    Calls Try.prog 23 #[.agg #[.int .u64 p], v, va] w fun e w' => ∃ v1 fb X, e = .returned (.tuple #[v1, .bool fb]) ∧ Lst w' v1 X ∧ SolOf p M V fb X ∧ Below w.heap.size w w' :=
  (mSolve_o p v va M V w hM hV hn hr hv).mono fun _ _ ⟨v1, fb, X, e, h1, h2, h3⟩ => ⟨v1, fb, X, e, h1.lst, h2, h3⟩
end Go.Proofs.Ytdcdaclkeocfpaa

namespace Go.Proofs.Ytdcdaclkeocfpaa
open Go.RowKit Go.BigFrame
open Classical

set_option maxHeartbeats 2000000 in
theorem slIndex_u (v : Value) (c : List Nat) (j : Nat) (w : World) (hc : LsI w v c) (hn : c.length ≤ 1000) :
    Calls Try.prog 104 #[v, .int .i64 j] w fun e w' => ∃ k : Int, e = .returned (.int .i64 k) ∧ decide (0 ≤ k) = c.contains j ∧ w' = w := by
  obtain ⟨a0, c0, rfl⟩ := hc.shape
  have HM := Lib.hid hc
  have i1 : (c.length : Int) ≤ 1000 := by omega
  clear hc
  go_enter Try.func104, Try.ntmps104
  go_wp2
  go_loopw [8] (fun iv wr => ∃ k : Nat, iv = .int .i64 k ∧ k ≤ c.length ∧ (∀ i (h : i < c.length), i < k → c[i] ≠ j) ∧ wr = w) (fun iv _ => c.length - (intOf iv).toNat)
  case atStart => exact ⟨0, rfl, Nat.zero_le _, fun i _ h => absurd h (Nat.not_lt_zero _), rfl⟩
  case round =>
    obtain ⟨k, rfl, hk, hall, rfl⟩ := hrel
    have i0 : (0 : Int) ≤ (k : Int) := by omega
    by_cases hlt : k < c.length
    · obtain ⟨b, o, cx, e, hcc⟩ := HM.out.cells k hlt
      obtain ⟨rfl, rfl⟩ : a0 = some ⟨b, o, none⟩ ∧ c0 = cx := by simp at e; exact e
      obtain ⟨x, hx⟩ : ∃ x, x = c[k] := ⟨_, rfl⟩
      rw [← hx] at hcc
      have i3 : (k : Int) < (c.length : Int) := by omega
      by_cases hxj : j = x
      · have i4 : ((j : Int) == (x : Int)) = true := by simp [hxj]
        have hm : c.contains j = true := by rw [hxj, hx]; simp
        have HD := Lib.hid hm
        clear hall e hx hm hxj
        go_wp2
        go_ret
        exact ⟨k, rfl, by rw [HD.out]; exact decide_eq_true i0, rfl⟩
      · have i4 : ((j : Int) == (x : Int)) = false := by simp; omega
        have HA := Lib.hid (And.intro hall (And.intro hx hxj))
        clear hall e hx hxj
        go_wp2
        refine ⟨⟨k + 1, by go_num, by omega, fun i hi hik => ?_, by first | rfl | trivial⟩, by simp [intOf]; omega⟩
        rcases Nat.lt_succ_iff_lt_or_eq.1 hik with e | e
        · exact HA.out.1 i hi e
        · subst e; rw [← HA.out.2.1]; exact fun h => HA.out.2.2 h.symm
    · obtain rfl : k = c.length := by omega
      have hm : c.contains j = false := by
        rw [Bool.eq_false_iff]
        intro h
        obtain ⟨i, hi, e⟩ := List.getElem_of_mem (by simpa using h)
        exact hall i hi hi e
      have HD := Lib.hid hm
      clear hall hm
      go_wp2
      go_ret
      exact ⟨_, rfl, by rw [HD.out]; decide, rfl⟩

set_option maxHeartbeats 1000000 in
theorem slContains_u (v : Value) (c : List Nat) (j : Nat) (w : World) (hc : LsI w v c) (hn : c.length ≤ 1000) :
    Calls Try.prog 67 #[v, .int .i64 j] w fun e w' => e = .returned (.bool (c.contains j)) ∧ w' = w := by
  have HM := Lib.hid hc
  clear hc
  go_enter Try.func67, Try.ntmps67
  go_wp2_with (go_at_call 104; refine (slIndex_u v c j _ HM.out hn).mono ?_; rintro _ w1 ⟨k, rfl, hk, hw⟩; obtain rfl : w = w1 := hw.symm)
  go_ret
  have hm : decide (j ∈ c) = c.contains j := by simp
  exact ⟨by rw [← hm]; rfl, rfl⟩

set_option maxRecDepth 100000 in
set_option maxHeartbeats 8000000 in
theorem mKernel_o (p : Int) [hpU : U p] (v : Value) (M : List (List Int)) (w : World) (hM : MatR w v M) (hn : M.length ≤ 100) (hr : ∀ i (h : i < M.length), M[i].length ≤ 100) :
    Calls Try.prog 26 #[.agg #[.int .u64 p], v] w fun e w' => ∃ v1 rs R c, e = .returned v1 ∧ OwnM w' w.heap.size v1 rs (kerTo p R c (cols R) (cols R)) ∧ RedOf p M R c ∧ Below w.heap.size w w' := by
  obtain ⟨a0, c0, rfl⟩ := hM.shape
  have HM := Lib.hid (And.intro hM hr)
  clear hM hr
  have hb0 : Below w.heap.size w (w.alloc (.cells #[.int .u64 p] 27)) := Below.made (Nat.le_refl _) (Below.refl _ _) _
  have hf0 : (w.alloc (.cells #[.int .u64 p] 27)).cell? ⟨w.heap.size, 0, none⟩ = some (.int .u64 p) := by go_simp
  have HB := Lib.hid (And.intro hb0 hf0)
  clear hb0 hf0
  go_enter Try.func26, Try.ntmps26
  go_upto_region 3 with (go_at_call 18; refine (mReduce_o p _ M _ (HM.out.1.hold HB.out.1) hn HM.out.2).mono ?_; rintro _ w1 ⟨v1, v2, rsR, R, c, rfl, hR, hc, hred, hb1⟩)
  obtain ⟨aR, cR, rfl⟩ := hR.matR.shape
  obtain ⟨ac, cc, rfl⟩ := hc.lst.shape
  obtain ⟨f1, f2, f3, f4, f5⟩ := hred.facts
  have HR := Lib.hid (And.intro hR.matR (And.intro hc.lst (And.intro hred (And.intro f4 (And.intro f5 (And.intro (Below.next (Nat.le_refl _) HB.out.1 hb1) (Below.hold hb1 HB.out.2)))))))
  clear hR hc hred hb1 f4 f5
  obtain ⟨n, hnn⟩ : ∃ n, n = cols R := ⟨_, rfl⟩
  have HN := Lib.hid hnn
  rw [← hnn] at f1
  clear hnn
  have i1 : (n : Int) ≤ 64 := by omega
  go_wp2_with (go_at_call 66; refine (mcolumns_u _ R _ HR.out.1 (by omega)).mono ?_; rintro e wc ⟨rfl, hwc⟩; obtain rfl : w1 = wc := hwc.symm; rw [← HN.out])
  clear hwc
  go_loopw [7, 20] (fun ov jv wr => ∃ (j : Nat) (rs : Nat → Value), jv = .int .i64 j ∧ j ≤ n ∧ OwnM wr w1.heap.size ov rs (kerTo p R c n j) ∧ Below w1.heap.size w1 wr) (fun _ jv _ => n - (intOf jv).toNat)
  case atStart => exact ⟨0, fun _ => undef, rfl, Nat.zero_le _, OwnM.nil _ _ _, Below.refl _ _⟩
  case round =>
    obtain ⟨j, rs, rfl, hj, hown, hb1⟩ := hrel
    have i0 : (0 : Int) ≤ (j : Int) := by omega
    rename World => wo
    by_cases hlt : j < n
    · have i2 : (j : Int) < (n : Int) := by omega
      have hbx := Below.hold hb1 HR.out.2.2.2.2.2.2
      have HW := Lib.hid (And.intro hown hb1)
      clear hown hb1
      by_cases hcj : c.contains j = true
      · have hks := kerTo_piv (p := p) (R := R) (n := n) hcj
        have HC := Lib.hid (And.intro hcj hks)
        clear hcj hks
        go_wp2_with (go_at_call 67; refine (slContains_u _ c j _ (HR.out.2.1.hold HW.out.2) (by omega)).mono ?_; rintro e wc ⟨rfl, hwc⟩; obtain rfl : wo = wc := hwc.symm; rw [HC.out.1])
        exact ⟨⟨j + 1, rs, by go_num, by omega, by rw [HC.out.2]; exact HW.out.1, HW.out.2⟩, by simp [intOf]; omega⟩
      · have hcj : c.contains j = false := by simpa using hcj
        have hks := kerTo_free (p := p) (R := R) (n := n) hcj
        have HC := Lib.hid (And.intro hcj hks)
        clear hcj hks
        go_upto_region 8 with (first
          | (go_at_call 67; refine (slContains_u _ c j _ (HR.out.2.1.hold HW.out.2) (by omega)).mono ?_; rintro e wc ⟨rfl, hwc⟩; obtain rfl : wo = wc := hwc.symm; rw [HC.out.1])
          | (go_at_call 66; refine (mcolumns_u _ R _ (HR.out.1.hold HW.out.2) (by omega)).mono ?_; rintro e wc ⟨rfl, hwc2⟩; obtain rfl : wo = wc := hwc2.symm; rw [← HN.out])
          | (at_make; (refine make_zeros rfl (.tmp 27) (.tmp 27) rfl wo.heap.size n rfl rfl (by omega) (Nat.le_refl _) ?_; intro vx wx hownx hvx hbx2; subst hvx)))
        have hjl : j < (List.replicate n (0 : Int)).length := by simp; exact hlt
        have hc := hownx.cell hjl
        rw [List.getElem_replicate] at hc
        have hz := hownx.thawed j
        have hs := hownx.set j 1
        rw [idRow_set] at hs
        have hb2 := Below.wrote hbx2 (Nat.le_refl _) hbx2.size hownx hs.2
        have HS := Lib.hid (And.intro hs.1 hb2)
        clear hs hb2 hownx hbx2 hjl hwc hwc2
        go_wp2_with fail
        obtain ⟨G, hG⟩ : ∃ G, G = wo.heap.size := ⟨_, rfl⟩
        rw [← hG] at HS ⊢
        have HG := Lib.hid hG
        clear hG hc hz
        go_loopw [34] (fun iv wr => ∃ (i : Nat), iv = .int .i64 i ∧ i ≤ c.length ∧ Own wr G (.slice (some ⟨G, 0, none⟩) n n) (kx p R c n j i) ∧ Below G wo wr) (fun iv _ => c.length - (intOf iv).toNat)
        case atStart => exact ⟨0, rfl, Nat.zero_le _, HS.out.1, HS.out.2⟩
        case round =>
          obtain ⟨i, rfl, hi, hx, hbi⟩ := hrel
          have hbi2 : Below wo.heap.size wo wr := by rw [← HG.out]; exact hbi
          have i3 : (0 : Int) ≤ (i : Int) := by omega
          have hbo := Below.next (Nat.le_refl _) HW.out.2 hbi2
          by_cases hlc : i < c.length
          · have i4 : (i : Int) < (c.length : Int) := by omega
            have hRi : i < R.length := by omega
            obtain ⟨b, o, c1, rv, e, hcr, hlr⟩ := (HR.out.1.hold hbo).rows i hRi
            obtain ⟨rfl, rfl⟩ : aR = some ⟨b, o, none⟩ ∧ cR = c1 := by simp at e; exact e
            obtain ⟨b2, o2, c2, e2, hcp⟩ := (HR.out.2.1.hold hbo).cells i hlc
            obtain ⟨rfl, rfl⟩ : ac = some ⟨b2, o2, none⟩ ∧ cc = c2 := by simp at e2; exact e2
            have hrl := HR.out.2.2.2.1 i hRi
            rw [← HN.out] at hrl
            have hcn := HR.out.2.2.2.2.1 i hlc
            rw [← HN.out] at hcn
            obtain ⟨b3, o3, c3, e3, hcx⟩ := hlr.cells j (by omega)
            rw [e3] at hcr
            have hux := hlr.us R[i][j] (List.getElem_mem (by omega))
            have hkx : kx p R c n j (i + 1) = (kx p R c n j i).set c[i] (sb p 0 R[i][j]) := by
              rw [kx, Po.getD_nat hlc, getD_row hRi, getD_lt _ (by omega)]
            have hcell := hx.cell (i := c[i]) (by rw [kx_len]; exact hcn)
            have hthaw := hx.thawed c[i]
            obtain ⟨x0, hx0⟩ : ∃ x0, x0 = (kx p R c n j i)[c[i]]'(by rw [kx_len]; exact hcn) := ⟨_, rfl⟩
            rw [← hx0] at hcell
            clear hx0
            obtain ⟨y, hy⟩ : ∃ y, y = R[i][j] := ⟨_, rfl⟩
            rw [← hy] at hux hcx hkx
            obtain ⟨t, ht⟩ : ∃ t, t = c[i] := ⟨_, rfl⟩
            rw [← ht] at hcp hkx hcell hthaw hcn
            rw [hrl] at hcr
            have i5 : (0 : Int) ≤ (t : Int) := by omega
            have i6 : (t : Int) < (n : Int) := by omega
            have i7 : (i : Int) < (R.length : Int) := by omega
            have hbxr := Below.hold hbi2 hbx
            have HV := Lib.hid (And.intro hx (And.intro hbi hkx))
            clear hx hbi hbi2 hkx hy ht e e2 e3 hlr hrl hRi hbo
            go_wp2_with fail
            have k0 := fun q : NwAt wr => q.nw.hold hbxr
            have k1 := fun q : NwAt wr => q.nw.hold hcr
            have k2 := fun q : NwAt wr => q.nw.hold hcx
            have k3 := fun q : NwAt wr => q.nw.hold hcell
            have k4 := fun q : NwAt wr => q.nw.holdf hthaw
            refine from_here ?_
            intro q
            refine wp_region_nwt 11 (by kernel_rfl) (by kernel_rfl) ?_
            simp only [List.take_succ_cons, List.take_zero, List.drop_succ_cons, List.drop_zero]
            repeat (go_big_quiet_step ((first | (go_at_call 68; exact nwAt_of (fNeg_u _ _ _)))))
            refine wpQuiet_nil ?_
            clear q
            rintro _ ⟨q, rfl⟩
            have j3 := k3 q
            have j4 := k4 q
            clear k0 k1 k2 k3 k4
            have hs := (HV.out.1.hold q.nw.b).set t (sb p 0 y)
            rw [← HV.out.2.2] at hs
            have hsz0 : G ≤ wo.heap.size := by have := HG.out; omega
            have hsz : G ≤ wr.heap.size := Nat.le_trans hsz0 HV.out.2.1.size
            have HSet := Lib.hid (And.intro hs.1 (Below.wrote (Below.next hsz0 HV.out.2.1 q.nw.b) (Nat.le_refl _) (Nat.le_trans hsz q.nw.b.size) (HV.out.1.hold q.nw.b) hs.2))
            clear hs
            go_wp2
            exact ⟨⟨i + 1, by go_num, by omega, HSet.out.1, HSet.out.2⟩, by simp [intOf]; omega⟩
          · obtain rfl : c.length = i := by omega
            have hkl := kerTo_len p R c n j
            have hxo : Own wr wo.heap.size (.slice (some ⟨G, 0, none⟩) n n) (kx p R c n j c.length) := by rw [← HG.out]; exact hx
            have hks := HC.out.2
            obtain ⟨X, hX⟩ : ∃ X, X = kx p R c n j c.length := ⟨_, rfl⟩
            rw [← hX] at hxo hks
            have HV := Lib.hid (And.intro hxo (And.intro hbi2 (And.intro hks hkl)))
            clear hx hxo hbi hbi2 hX hks hkl
            go_wp2_with (at_builtin; refine append_mat rfl (.tmp 52) (.tmp 54) rfl w1.heap.size u7 rs (kerTo p R c n j) rfl (HW.out.1.hold HV.out.2.1) _ X (HV.out.1.low HW.out.2.size) (HW.out.1.fresh HV.out.1).1 (HW.out.1.fresh HV.out.1).2 rfl (by have := HV.out.2.2.2; omega) (Nat.le_trans HW.out.2.size HV.out.2.1.size) ?_; intro g2 c2 w2 hown2 hg3 hg2)
            rw [← HV.out.2.2.1] at hown2
            exact ⟨⟨j + 1, _, by go_num, by omega, hown2, (Below.next (Nat.le_refl _) HW.out.2 HV.out.2.1).grown hg2 (Nat.le_trans HW.out.2.size HV.out.2.1.size) (fun b e => (HW.out.1.outer.lt b e).1)⟩, by simp [intOf]; omega⟩
    · obtain rfl : n = j := by omega
      have HW := Lib.hid (And.intro hown hb1)
      clear hown hb1
      go_wp2
      go_ret
      exact ⟨_, rs, R, c, rfl, by rw [← HN.out]; exact HW.out.1.low HR.out.2.2.2.2.2.1.size, HR.out.2.2.1, Below.next (Nat.le_refl _) HR.out.2.2.2.2.2.1 HW.out.2⟩

theorem mKernel_p (p : Int) [hpU : U p] (v : Value) (M : List (List Int)) (w : World) (hM : MatR w v M) (hn : M.length ≤ 100) (hr : ∀ i (h : i < M.length), M[i].length ≤ 100) :
    Calls Try.prog 26 #[.agg #[.int .u64 p], v] w fun e w' => ∃ v1 R c, e = .returned v1 ∧ MatR w' v1 (kerTo p R c (cols R) (cols R)) ∧ RedOf p M R c ∧ Below w.heap.size w w' :=
  (mKernel_o p v M w hM hn hr).mono fun _ _ ⟨v1, _, R, c, e, h1, h2, h3⟩ => ⟨v1, R, c, e, h1.matR, h2, h3⟩
end Go.Proofs.Ytdcdaclkeocfpaa

namespace Go.Proofs.Ytdcdaclkeocfpaa
open Go.RowKit Go.BigFrame
open Classical

set_option maxRecDepth 100000 in
set_option maxHeartbeats 16000000 in
theorem mInverse_o (p : Int) [hpU : U p] (v : Value) (M : List (List Int)) (w : World) (hM : MatR w v M) (hn : M.length ≤ 100) (hr : ∀ i (h : i < M.length), M[i].length ≤ 100) :
    Calls Try.prog 30 #[.agg #[.int .u64 p], v] w fun e w' => ∃ v1 rs fb X, e = .returned (.tuple #[v1, .bool fb]) ∧ OwnM w' w.heap.size v1 rs X ∧ InvOf p M fb X ∧ Below w.heap.size w w' := by
  obtain ⟨a0, c0, rfl⟩ := hM.shape
  have HM := Lib.hid (And.intro hM hr)
  clear hM hr
  have hb0 : Below w.heap.size w (w.alloc (.cells #[.int .u64 p] 27)) := Below.made (Nat.le_refl _) (Below.refl _ _) _
  have hf0 : (w.alloc (.cells #[.int .u64 p] 27)).cell? ⟨w.heap.size, 0, none⟩ = some (.int .u64 p) := by go_simp
  have HB := Lib.hid (And.intro hb0 hf0)
  clear hb0 hf0
  by_cases hok : OkM p M
  · have hd : decide (OkM p M) = true := decide_eq_true hok
    have h64 := hok.2.2
    by_cases hsq : M.length = cols M
    · have hne : ((M.length : Int) != (cols M : Int)) = false := by rw [← hsq]; simp
      have i1 : (M.length : Int) ≤ 64 := by omega
      have i2 : (0 : Int) ≤ (M.length : Int) := by omega
      obtain ⟨D, hD⟩ : ∃ D, D = redL p M := ⟨_, rfl⟩
      obtain ⟨F, hF⟩ : ∃ F, F = augL p M := ⟨_, rfl⟩
      have hDl : D.length = M.length := by rw [hD, redL_len]
      have hFl : F.length = D.length := by rw [hF, augL_len, hDl]
      have hDr : ∀ i (h : i < D.length), D[i].length = M.length := fun i h => by subst hD; rw [hok.mt.row i h, hsq]
      have hFi : ∀ i (h : i < F.length) (h2 : i < D.length), F[i] = D[i] ++ idRow M.length i := fun i h h2 => by
        subst hF hD
        rw [augL_at h h2]
      have hMr : ∀ i (h : i < M.length), M[i].length = M.length := fun i h => by rw [(hok.2.1 i h).1, hsq]
      have HK := Lib.hid (And.intro hok (And.intro hd (And.intro hsq (And.intro hDl (And.intro hFl (And.intro hDr (And.intro hFi (And.intro hMr (And.intro hD hF)))))))))
      clear hok hd hsq hD hF hDr hFi hMr hDl hFl
      go_enter Try.func30, Try.ntmps30
      go_wp2_with (first
        | (go_at_call 61; refine (musable_u p _ M _ (HM.out.1.hold HB.out.1) (by omega) (fun i h => Nat.le_trans (HM.out.2 i h) (by decide))).mono ?_; rintro _ w1 ⟨rfl, hb1⟩; rw [HK.out.2.1]
           have hb1' := Below.next (Nat.le_refl _) HB.out.1 hb1.b
           have hf1 := hb1.hold HB.out.2
           have hs1 : w.heap.size + 1 ≤ w1.heap.size := by have := hb1.b.size; simpa using this)
        | (go_at_call 66; refine (mcolumns_u _ M _ (HM.out.1.hold hb1') (by omega)).mono ?_; rintro e wq ⟨rfl, hwq⟩; obtain rfl : w1 = wq := hwq.symm)
        | (go_at_call 62; refine (mcopyOf_w p HK.out.1.1 _ M _ (HM.out.1.hold hb1') hn HM.out.2).mono ?_; rintro _ w2 ⟨v2, rs2, rfl, hm2, hex2, hsz2, hb2⟩
           have hb2' := Below.next (Nat.le_refl _) hb1' hb2
           have hf2 := Below.hold hb2 hf1
           have hsh2 : ∃ a c, v2 = .slice a M.length c := by
             obtain ⟨a, c, e⟩ := hm2.matR.shape
             rw [redL_len] at e; exact ⟨a, c, e⟩
           obtain ⟨a2, c2, rfl⟩ := hsh2))
      obtain ⟨B1, hB1⟩ : ∃ B1, B1 = w1.heap.size + 1 := ⟨_, rfl⟩
      rw [← hB1] at hm2 hsz2
      have hBw : w.heap.size + 1 ≤ B1 := by omega
      rw [← HK.out.2.2.2.2.2.2.2.2.1] at hm2
      have hex3 : ∀ k, k < M.length → ∃ g, rs2 k = .slice (some ⟨g, 0, none⟩) M.length M.length := fun k h => by
        obtain ⟨g, e⟩ := hex2 k h
        rw [HK.out.2.2.2.2.2.2.2.1 k h] at e
        exact ⟨g, e⟩
      have HO := Lib.hid (And.intro hm2 (And.intro hex3 (And.intro hsz2 (And.intro hb2' hf2))))
      clear hm2 hex2 hex3 hsz2 hb2 hb2' hf2 hB1 hb1 hb1' hf1 hs1 hwq
      go_loopw [32] (fun iv wr => ∃ (i : Nat) (rs : Nat → Value), iv = .int .i64 i ∧ i ≤ M.length ∧ OwnM wr B1 (.slice a2 M.length c2) rs (mixL F D i) ∧ (∀ k, k < M.length → i ≤ k → ∃ g, rs k = .slice (some ⟨g, 0, none⟩) M.length M.length) ∧ wr.cell? ⟨w.heap.size, 0, none⟩ = some (.int .u64 p) ∧ Below w.heap.size w wr ∧ B1 ≤ wr.heap.size) (fun iv _ => M.length - (intOf iv).toNat)
      case atStart => exact ⟨0, rs2, rfl, Nat.zero_le _, by rw [mixL_zero]; exact HO.out.1, fun k h _ => HO.out.2.1 k h, HO.out.2.2.2.2, HO.out.2.2.2.1, HO.out.2.2.1⟩
      case round =>
        obtain ⟨i, rs, rfl, hi, hown, hex, hbx, hb, hsr⟩ := hrel
        have i0 : (0 : Int) ≤ (i : Int) := by omega
        have hDl := HK.out.2.2.2.1
        have hFl := HK.out.2.2.2.2.1
        by_cases hlt : i < M.length
        · have hiD : i < D.length := by omega
          have hSl : (mixL F D i).length = M.length := by rw [mixL_len hFl (by omega)]; exact hDl
          have hFS := mixL_set (F := F) (D := D) (i := i) hFl (by omega)
          rw [HK.out.2.2.2.2.2.2.1 i (by omega) hiD] at hFS
          have hSi := mixL_at (F := F) (D := D) (i := i) hFl hiD (by rw [hSl]; exact hlt)
          have hDr := HK.out.2.2.2.2.2.1 i hiD
          obtain ⟨g0, cap0, e0, hg0, hg0w⟩ := hown.shapeAt (by rw [hSl]; omega)
          rw [hSl] at e0
          obtain ⟨rfl, rfl⟩ : a2 = some ⟨g0, 0, none⟩ ∧ c2 = cap0 := by simp at e0; exact e0
          obtain ⟨gr, hrr⟩ := hex i hlt (Nat.le_refl _)
          obtain ⟨S, hS⟩ : ∃ S, S = mixL F D i := ⟨_, rfl⟩
          rw [← hS] at hown hFS hSl
          have hoR := hown.row i (by omega)
          have hoR2 : Own wr B1 (.slice (some ⟨gr, 0, none⟩) M.length M.length) D[i] := by
            subst hS
            rw [hSi, hrr] at hoR; exact hoR
          obtain ⟨R, hR⟩ : ∃ R, R = D[i] := ⟨_, rfl⟩
          rw [← hR] at hFS hoR2 hDr
          have hst1 : (R ++ List.replicate M.length 0).set (M.length + i) 1 = R ++ idRow M.length i := by
            rw [List.set_append, if_neg (by omega), hDr, Nat.add_sub_cancel_left, idRow_set]
          have hco := hown.out (i := i) (by omega) hrr
          have hzi := hown.thawed i
          have i3 : (i : Int) < (M.length : Int) := by omega
          have hoR3 : Own wr B1 (.slice (some ⟨gr, 0, none⟩) R.length R.length) R := by rw [hDr]; exact hoR2
          have HW := Lib.hid (And.intro hown (And.intro hb (And.intro hFS (And.intro hSl (And.intro hoR3 (And.intro hex (And.intro hsr (And.intro hDr hst1))))))))
          clear hown hFS hSl hoR hoR2 hoR3 hR hex hSi hDr hS hst1 hrr e0 hDl hFl
          clear hDr hiD
          go_upto_region 9 with (at_builtin; refine append_zeros rfl (.tmp 40) (.tmp 41) rfl B1 gr R (by rw [HW.out.2.2.2.2.2.2.2.1]; rfl) HW.out.2.2.2.2.1 M.length (by omega) (by omega) rfl (by rw [HW.out.2.2.2.2.2.2.2.1]; omega) HW.out.2.2.2.2.2.2.1 ?_; rw [HW.out.2.2.2.2.2.2.2.1]; intro c3 w4 hown4 hb4; have hco4 := Below.hold hb4 hco; have hzi4 := (HW.out.1.hold hb4).thawed i)
          have hst := (HW.out.1.hold hb4).setRow (i := i) hown4 (fun k hk _ b hb e2 => by
            have h1 := ((HW.out.1.row k hk).row.lt b hb).2
            have e3 : wr.heap.size = b := by simpa [Value.ownBlock] using e2
            omega) (fun e2 => by
            have e3 : wr.heap.size = g0 := by simpa [Value.ownBlock] using e2
            omega)
          have hB4 : Below w.heap.size w w4 := Below.next (Nat.le_refl _) hb hb4
          have hB5 := OwnM.wroteO hB4 (show w.heap.size ≤ B1 by omega) hB4.size (HW.out.1.hold hb4) hst.2
          have hbx5 : (w4.setCell ⟨g0, i, none⟩ (.slice (some ⟨wr.heap.size, 0, none⟩) (M.length + M.length) c3)).cell? ⟨w.heap.size, 0, none⟩ = some (.int .u64 p) := by
            rw [World.cell?_setCell_far _ _ _ _ (by show g0 ≠ w.heap.size; omega)]; exact Below.hold hb4 hbx
          refine name_world ?_
          intro W hW
          rw [← hW] at hst hB5 hbx5
          have hszW : B1 ≤ W.heap.size := by
            rw [hW]
            have h1 := HW.out.2.2.2.2.2.2.1
            have h2 := hb4.size
            simp; omega
          obtain ⟨G, hG⟩ : ∃ G, G = wr.heap.size := ⟨_, rfl⟩
          rw [← hG] at hst ⊢
          have hGB : B1 ≤ G := by have := HW.out.2.2.2.2.2.2.1; omega
          obtain ⟨rs1, hrs1⟩ : ∃ f : Nat → Value, f = rsSet rs i (.slice (some ⟨G, 0, none⟩) (M.length + M.length) c3) := ⟨_, rfl⟩
          have hr1 : rs1 i = .slice (some ⟨G, 0, none⟩) (M.length + M.length) c3 := by rw [hrs1, rsSet_at]
          have hre : ∀ k, k < M.length → i + 1 ≤ k → ∃ g, rs1 k = .slice (some ⟨g, 0, none⟩) M.length M.length := fun k h hk => by
            rw [hrs1, rsSet_off rs _ (by omega)]; exact HW.out.2.2.2.2.2.1 k h (by omega)
          rw [← hrs1] at hst
          have hiS : ∀ Y, i < (S.set i Y).length := fun Y => by rw [List.length_set, HW.out.2.2.2.1]; exact hlt
          have hXl : (R ++ List.replicate M.length 0).length = M.length + M.length := by rw [List.length_append, List.length_replicate, HW.out.2.2.2.2.2.2.2.1]
          have hcoW := hst.1.out (hiS _) hr1
          have hci := hst.1.cellIn (t := M.length + i) (hiS _) hr1 (List.getElem_set_self _) (by rw [hXl]; omega)
          obtain ⟨x0, hx0⟩ : ∃ x0, x0 = (R ++ List.replicate M.length 0)[M.length + i]'(by rw [hXl]; omega) := ⟨_, rfl⟩
          rw [← hx0] at hci
          obtain ⟨hce, hze, -⟩ := hci
          have hs2 := hst.1.setIn (by rw [HW.out.2.2.2.1]; exact hlt) hr1 (M.length + i) 1
          rw [HW.out.2.2.2.2.2.2.2.2, HW.out.2.2.1] at hs2
          have hB6 := OwnM.wrote hB5 (show w.heap.size ≤ B1 by omega) hB5.size hst.1 (i := i) (hiS _) hr1 hs2.2
          have HS := Lib.hid (And.intro hs2.1 (And.intro hB6 hre))
          have j1 : IntKind.i64.wrap ((M.length : Int) + (i : Int)) = (M.length : Int) + (i : Int) := by rw [IntKind.wrap_i64]; omega
          have j2 : ((M.length : Int) + (i : Int)).toNat = M.length + i := by omega
          have j3 : (0 : Int) ≤ (M.length : Int) + (i : Int) := by omega
          have j4 : (M.length : Int) + (i : Int) < ((M.length + M.length : Nat) : Int) := by omega
          clear hst hown4 hb4 hB4 hB5 hco hco4 hzi hzi4 hbx hb hrs1 hs2 hB6 hre hx0 hG hiS hXl hW
          go_wp2
          refine ⟨⟨i + 1, rs1, by go_num, by omega, HS.out.1, HS.out.2.2, ?_, HS.out.2.1, ?_⟩, by simp [intOf]; omega⟩
          · rw [World.cell?_setCell_far _ _ _ _ (by show G ≠ w.heap.size; omega)]; exact hbx5
          · simpa using hszW
        · obtain rfl : i = M.length := by omega
          have hFF : mixL F D M.length = F := by rw [← hDl, ← hFl]; exact mixL_all hFl
          rw [hFF] at hown
          have hmtF := augL_mt HK.out.1 HK.out.2.2.1
          rw [← HK.out.2.2.2.2.2.2.2.2.2] at hmtF
          have HW := Lib.hid (And.intro hown (And.intro hb (And.intro hmtF hsr)))
          clear hown hb hmtF hex hFF hlt hi hsr hDl hFl
          go_upto_region 12 with (go_at_call 63; refine (meliminate_w p HK.out.1.1 B1 _ rs F M.length (M.length + M.length) _ HW.out.1 HW.out.2.2.1.1 HW.out.2.2.1.2 (by omega) (by omega) HW.out.2.2.2).mono ?_; rintro _ wz ⟨vp, rsR, R, c, fac, rfl, hmR, hcR, helm, -, -, hbz⟩)
          obtain ⟨ac, cc, rfl⟩ := hcR.lst.shape
          have helm2 : Elm p (augL p M) (M.length + M.length) R c := by
            have h := helm
            rw [HK.out.2.2.2.2.2.2.2.2.2] at h; exact h
          have hRl : R.length = M.length := by rw [helm2.mt.len, augL_len]
          have hRr : ∀ i (h : i < R.length), R[i].length = M.length + M.length := fun i h => helm2.mt.row i h
          obtain ⟨hcl, hno, hyes⟩ := InvOf.aug HK.out.1 HK.out.2.2.1 helm2
          have HZ := Lib.hid (And.intro hmR.matR (And.intro hcR.lst (And.intro hno (And.intro hyes (And.intro (HW.out.2.1.trans (hbz.mono (by omega))) (And.intro hRl (And.intro hRr hcl)))))))
          clear hmR hcR helm helm2 hbz hRl hRr hno hyes hcl
          go_wp2_with (at_make; refine make_rows rfl (.tmp 59) (.tmp 59) rfl wz.heap.size M.length rfl rfl (by omega) (Nat.le_refl _) ?_; intro vx wx hownx hvx hbx2; subst hvx)
          obtain ⟨gx, hgx⟩ : ∃ gx, gx = wz.heap.size := ⟨_, rfl⟩
          have hsx := hbx2.size
          rw [← hgx] at hownx hbx2 hsx ⊢
          have hzs := HZ.out.2.2.2.2.1.size
          have hgw : w.heap.size ≤ gx := by omega
          have HGX := Lib.hid hgx
          obtain ⟨X, hX⟩ : ∃ X, X = R.map (·.drop M.length) := ⟨_, rfl⟩
          have hXl : X.length = M.length := by rw [hX, List.length_map]; exact HZ.out.2.2.2.2.2.1
          have hXi : ∀ i (h : i < X.length) (h2 : i < R.length), X[i] = R[i].drop M.length := fun i h h2 => by subst hX; simp
          have HX := Lib.hid (And.intro hownx (And.intro hbx2 (And.intro hXl (And.intro hXi (And.intro hX hsx)))))
          have i5 : (c.length : Int) ≤ 64 := by have := HZ.out.2.2.2.2.2.2.2; omega
          clear hownx hbx2 hgx hzs hX hXl hXi hsx
          go_loopw [63] (fun iv wr => ∃ (i : Nat) (rs : Nat → Value), iv = .int .i64 i ∧ i ≤ c.length ∧ OwnM wr gx (.slice (some ⟨gx, 0, none⟩) M.length M.length) rs (fillL X i) ∧ (∀ x ∈ c.take i, x < M.length) ∧ Below gx wz wr ∧ gx ≤ wr.heap.size) (fun iv _ => c.length - (intOf iv).toNat)
          case atStart => exact ⟨0, _, rfl, Nat.zero_le _, by rw [fillL_zero, HX.out.2.2.1]; exact HX.out.1, fun x hx => by simp at hx, HX.out.2.1, HX.out.2.2.2.2.2⟩
          case round =>
            obtain ⟨i, rs, rfl, hi, hown, hpv, hbi, hsr⟩ := hrel
            have hbi2 : Below wz.heap.size wz wr := by rw [← HGX.out]; exact hbi
            have i3 : (0 : Int) ≤ (i : Int) := by omega
            by_cases hlc : i < c.length
            · have hcl := HZ.out.2.2.2.2.2.2.2
              have hRl := HZ.out.2.2.2.2.2.1
              have hRi : i < R.length := by omega
              have hiM : i < M.length := by omega
              have hXl := HX.out.2.2.1
              have i4 : (i : Int) < (c.length : Int) := by omega
              have i6 : (i : Int) < (M.length : Int) := by omega
              obtain ⟨b2, o2, c2', e2, hcp⟩ := (HZ.out.2.1.hold hbi2).cells i hlc
              obtain ⟨rfl, rfl⟩ : ac = some ⟨b2, o2, none⟩ ∧ cc = c2' := by simp at e2; exact e2
              by_cases htn : M.length ≤ c[i]
              · have i8 : decide ((M.length : Int) ≤ (c[i] : Int)) = true := by simp; omega
                have hinv := HZ.out.2.2.1 i hlc htn
                obtain ⟨t, ht⟩ : ∃ t, t = c[i] := ⟨_, rfl⟩
                rw [← ht] at hcp i8 htn
                have i9 : (M.length : Int) ≤ (t : Int) := by omega
                have HV := Lib.hid (And.intro hinv (Below.next (Nat.le_refl _) HZ.out.2.2.2.2.1 hbi2))
                clear hown hpv hbi hbi2 hinv htn e2 ht hcl hRl hXl
                go_wp2_with fail
                refine bodyPost_ret (results_tmp2 rfl _ _ _) rfl ?_
                exact ⟨_, fun _ => undef, false, [], rfl, OwnM.nil _ _ _, HV.out.1, HV.out.2⟩
              · have htl : c[i] < M.length := by omega
                have hpv2 : ∀ x ∈ c.take (i + 1), x < M.length := fun x hx => by
                  rw [List.take_succ_eq_append_getElem hlc] at hx
                  rcases List.mem_append.1 hx with hx | hx
                  · exact hpv x hx
                  · rw [List.mem_singleton.1 hx]; exact htl
                obtain ⟨b, o, cx, rv, e, hcr, hlr⟩ := (HZ.out.1.hold hbi2).rows i hRi
                rw [hRl] at e
                obtain ⟨rfl, rfl⟩ : a2 = some ⟨b, o, none⟩ ∧ c2 = cx := by simp at e; exact e
                have hrl := HZ.out.2.2.2.2.2.2.1 i hRi
                obtain ⟨b3, o3, c3, e3, -⟩ := hlr.cells 0 (by omega)
                subst e3
                have hroom := hlr.room _ _ _ rfl
                have hd1 := hlr.dropN M.length (by omega)
                rw [hrl, Nat.add_sub_cancel] at hd1
                have hFS := fillL_set (F := X) (i := i) (by omega)
                rw [HX.out.2.2.2.1 i (by omega) hRi] at hFS
                have hSl : (fillL X i).length = M.length := by rw [fillL_len (by omega)]; exact hXl
                rw [hrl] at hcr hroom
                obtain ⟨Y, hY⟩ : ∃ Y, Y = R[i].drop M.length := ⟨_, rfl⟩
                have hYl : Y.length = M.length := by rw [hY, List.length_drop]; omega
                rw [← hY] at hd1 hFS
                obtain ⟨S, hS⟩ : ∃ S, S = fillL X i := ⟨_, rfl⟩
                rw [← hS] at hown hFS hSl
                obtain ⟨t, ht⟩ : ∃ t, t = c[i] := ⟨_, rfl⟩
                rw [← ht] at hcp htl htn
                have i8 : decide ((M.length : Int) ≤ (t : Int)) = false := by simp; omega
                have i9 : ¬ (M.length : Int) ≤ (t : Int) := by omega
                have i10 : (M.length : Int) ≤ ((M.length + M.length : Nat) : Int) := by omega
                have i11 : ((M.length + M.length : Nat) : Int) ≤ (c3 : Int) := by omega
                have i12 : ¬ c3 - M.length = 0 := by omega
                have hci := hown.cell (i := i) (by omega)
                have hzi := hown.thawed i
                have HV := Lib.hid (And.intro hown (And.intro hbi (And.intro hbi2 (And.intro hFS (And.intro hSl (And.intro hd1 (And.intro hYl (And.intro hpv2 hsr))))))))
                clear hown hpv hpv2 hbi hbi2 hFS hSl hd1 hY hYl hS ht e e2 hlr hrl hroom htl htn hsr hcl hRl hXl
                go_wp2_with (go_at_call 71; refine (clone_u _ Y _ (by rw [← HV.out.2.2.2.2.2.2.1] at *; exact HV.out.2.2.2.2.2.1) (by rw [HV.out.2.2.2.2.2.2.1]; omega)).mono ?_; rintro _ w5 ⟨vC, rfl, hoC, hb5⟩; obtain ⟨aC, cC, rfl⟩ := hoC.slice; have hci5 := Below.hold hb5 hci; have hzi5 := (HV.out.1.hold hb5).thawed i)
                have hst := (HV.out.1.hold hb5).setRow (i := i) (hoC.low HV.out.2.2.2.2.2.2.2.2) (fun k hk _ b hb e2 => by
                  have h1 := ((HV.out.1.row k hk).row.lt b hb).2
                  have h2 := (hoC.row.lt b e2).1
                  omega) (fun e2 => by
                  have h1 := (HV.out.1.outer.lt gx rfl).2
                  have h2 := (hoC.row.lt gx e2).1
                  omega)
                rw [HV.out.2.2.2.1] at hst
                have hgz : gx ≤ wz.heap.size := by have := HGX.out; omega
                have hB5 : Below gx wz w5 := Below.next hgz HV.out.2.1 hb5
                have hB6 := OwnM.wroteO hB5 (Nat.le_refl _) (Nat.le_trans HV.out.2.2.2.2.2.2.2.2 hb5.size) (HV.out.1.hold hb5) hst.2
                exact ⟨⟨i + 1, _, by go_num, by omega, hst.1, HV.out.2.2.2.2.2.2.2.1, hB6, by have h1 := HV.out.2.2.2.2.2.2.2.2; have h2 := hb5.size; simp; omega⟩, by simp [intOf]; omega⟩
            · obtain rfl : c.length = i := by omega
              have hcl := HZ.out.2.2.2.2.2.2.2
              rw [List.take_of_length_le (Nat.le_refl _)] at hpv
              rw [hcl, ← HX.out.2.2.1, fillL_all, HX.out.2.2.2.2.1] at hown
              have hinv := (HZ.out.2.2.2.1 hpv).2
              have hX3 := HX.out.2.2.1
              rw [HX.out.2.2.2.2.1] at hX3
              rw [hX3] at hown
              have HV := Lib.hid (And.intro hown (And.intro hinv (Below.next (Nat.le_refl _) HZ.out.2.2.2.2.1 hbi2)))
              clear hown hpv hbi hbi2 hinv hcl hX3
              go_wp2_with fail
              refine bodyPost_ret (results_tmp2 rfl _ _ _) rfl ?_
              exact ⟨_, rs, .inr ⟨rfl, _, HV.out.1.low hgw, HV.out.2.1, HV.out.2.2⟩⟩
    · have hne : ((M.length : Int) != (cols M : Int)) = true := bne_iff_ne.2 (show (M.length : Int) ≠ (cols M : Int) by omega)
      have HK := Lib.hid (And.intro hd hsq)
      clear hd hok hsq
      go_enter Try.func30, Try.ntmps30
      go_wp2_with (first
        | (go_at_call 61; refine (musable_u p _ M _ (HM.out.1.hold HB.out.1) (by omega) (fun i h => Nat.le_trans (HM.out.2 i h) (by decide))).mono ?_; rintro _ w1 ⟨rfl, hb1⟩; rw [HK.out.1])
        | (go_at_call 66; refine (mcolumns_u _ M _ (HM.out.1.hold (Below.next (Nat.le_refl _) HB.out.1 hb1.b)) (by omega)).mono ?_; rintro e w2 ⟨rfl, hw2⟩; obtain rfl : w1 = w2 := hw2.symm))
      refine bodyPost_ret (results_tmp2 rfl _ _ _) rfl ?_
      exact ⟨_, fun _ => undef, false, [], rfl, OwnM.nil _ _ _, ⟨fun _ => ⟨rfl, rfl⟩, fun _ h => absurd h HK.out.2⟩, Below.next (Nat.le_refl _) HB.out.1 hb1.b⟩
  · have hd : decide (OkM p M) = false := decide_eq_false hok
    have HK := Lib.hid (And.intro hd hok)
    clear hd hok
    go_enter Try.func30, Try.ntmps30
    go_wp2_with (first
      | (go_at_call 61; refine (musable_u p _ M _ (HM.out.1.hold HB.out.1) (by omega) (fun i h => Nat.le_trans (HM.out.2 i h) (by decide))).mono ?_; rintro _ w1 ⟨rfl, hb1⟩; rw [HK.out.1]))
    refine bodyPost_ret (results_tmp2 rfl _ _ _) rfl ?_
    exact ⟨_, fun _ => undef, false, [], rfl, OwnM.nil _ _ _, ⟨fun _ => ⟨rfl, rfl⟩, fun h _ => absurd h HK.out.2⟩, Below.next (Nat.le_refl _) HB.out.1 hb1.b⟩

theorem mInverse_p (p : Int) [hpU : U p] (v : Value) (M : List (List Int)) (w : World) (hM : MatR w v M) (hn : M.length ≤ 100) (hr : ∀ i (h : i < M.length), M[i].length ≤ 100) :
    Calls Try.prog 30 #[.agg #[.int .u64 p], v] w fun e w' => ∃ v1 fb X, e = .returned (.tuple #[v1, .bool fb]) ∧ MatR w' v1 X ∧ InvOf p M fb X ∧ Below w.heap.size w w' :=
  (mInverse_o p v M w hM hn hr).mono fun _ _ ⟨v1, _, fb, X, e, h1, h2, h3⟩ => ⟨v1, fb, X, e, h1.matR, h2, h3⟩
end Go.Proofs.Ytdcdaclkeocfpaa
