/- The walks of package linear's copyOf, addMultiple, scale, firstNonzero; make of a list of rows. -/
import Derived.Test.YtdcdaclkeocfpaaQA
namespace Go.Proofs.Ytdcdaclkeocfpaa
open Go.RowKit Go.BigFrame
open Classical

theorem OwnM.setIn {w : World} {base g n cp : Nat} {v : Value} {rs : Nat → Value} {S : List (List Int)} {a : Nat} {X : List Int} (h : OwnM w base v rs (S.set a X)) (ha : a < S.length) (e : rs a = .slice (some ⟨g, 0, none⟩) n cp) (t : Nat) (x : Int) [hx : U x] :
    OwnM (w.setCell ⟨g, t, none⟩ (.int .u64 x)) base v rs (S.set a (X.set t x)) ∧ w.grownBy (w.setCell ⟨g, t, none⟩ (.int .u64 x)) (some g) := by
  have h1 := h.setAt (i := a) (by rw [List.length_set]; exact ha) e t x
  rw [List.getElem_set_self, List.set_set] at h1
  exact h1
theorem OwnM.wrote {B base g : Nat} {w a b : World} {v : Value} {rs : Nat → Value} {L : List (List Int)} (h : Below B w a) (hB : B ≤ base) (hs : B ≤ a.heap.size) (hw : OwnM a base v rs L) {i : Nat} (hi : i < L.length) {n cp : Nat} (e : rs i = .slice (some ⟨g, 0, none⟩) n cp) (k : a.grownBy b (some g)) : Below B w b :=
  h.grown k hs fun j ej => by
    cases ej
    have := ((hw.row i hi).row.lt g (by rw [e]; rfl)).1
    omega
theorem OwnM.wroteO {B base : Nat} {w a b : World} {v : Value} {rs : Nat → Value} {L : List (List Int)} (h : Below B w a) (hB : B ≤ base) (hs : B ≤ a.heap.size) (hw : OwnM a base v rs L) (k : a.grownBy b v.ownBlock) : Below B w b :=
  h.grown k hs fun j ej => by
    have := (hw.outer.lt j ej).1
    omega
theorem OwnM.out {w : World} {base g n cp : Nat} {rs : Nat → Value} {L : List (List Int)} (h : OwnM w base (.slice (some ⟨g, 0, none⟩) n cp) rs L) {i : Nat} (hi : i < L.length) {v : Value} (e : rs i = v) : w.cell? ⟨g, i, none⟩ = some v := by
  rw [← e]; exact h.cell hi
theorem OwnM.cellIn {w : World} {base g n cp : Nat} {v : Value} {rs : Nat → Value} {L : List (List Int)} (h : OwnM w base v rs L) {i : Nat} (hi : i < L.length) (e : rs i = .slice (some ⟨g, 0, none⟩) n cp) {X : List Int} (hX : L[i] = X) {t : Nat} (ht : t < X.length) :
    w.cell? ⟨g, t, none⟩ = some (.int .u64 X[t]) ∧ w.frozen? ⟨g, t, none⟩ = false ∧ U X[t] := by
  subst hX
  have h1 := h.row i hi
  rw [e] at h1
  exact ⟨h1.cell ht, h1.thawed t, h1.us _ (List.getElem_mem ht)⟩
/-- 'make([][]uint64, n)'. -/
theorem make_rows {w : World} {ops : Array Oper} {rest : List Oper} {o : Oper} {a : Act} {Q : Exit → Act → World → Prop} (hgd : o.guard = none) (s x : Operand) (ho : o.op = Op.makeSlice 23 s x)
    (base n : Nat) (hs : a.eval s = .int .i64 n) (hx : a.eval x = .int .i64 n) (hn : n ≤ 1000000) (hbase : base ≤ w.heap.size)
    (h : ∀ v' w', OwnM w' base v' (fun _ => .slice none 0 0) (List.replicate n []) → v' = .slice (some ⟨w.heap.size, 0, none⟩) n n → Below base w w' → wpList Try.prog ops Q rest (a.put o.dst v') w') : wpList Try.prog ops Q (o :: rest) a w := by
  obtain ⟨i0, hi, hz0, hz1, hz2⟩ := info_parts info_row
  refine wpList_make_full w hgd s x 23 ho base 36 i0 (.slice none 0 0) 1 Try.underlying23 hi hz0 hz1 .i64 .i64 n n n hs hx rfl rfl (by rw [hz2]; omega) (by unfold maxLen; omega) hbase ?_
  intro w' hown hg
  have e : (madeCells (Value.slice none 0 0).cells (n * 1)).toList = rowsOf (fun _ => .slice none 0 0) n := by
    rw [Nat.mul_one, rowsOf, List.map_const', List.length_range, List.eq_replicate_iff]
    simp [madeCells, Value.cells, Nat.mod_one]
  refine h _ w' ⟨?_, fun i hi => ?_, fun i j _ _ _ g hg => (by cases hg), fun i _ g hg => (by cases hg)⟩ rfl ((Below.refl _ _).grown hg hbase (fun k e => by cases e))
  · rw [List.length_replicate, ← e]; exact hown
  · rw [List.getElem_replicate]; exact Own.nil _ _
/-- The first i rows are there. -/
def fillL (F : List (List Int)) (i : Nat) : List (List Int) := F.take i ++ List.replicate (F.length - i) []
theorem fillL_len {F : List (List Int)} {i : Nat} (h : i ≤ F.length) : (fillL F i).length = F.length := by unfold fillL; rw [List.length_append, List.length_take, List.length_replicate]; omega
theorem fillL_zero (F : List (List Int)) : fillL F 0 = List.replicate F.length [] := by simp [fillL]
theorem fillL_all (F : List (List Int)) : fillL F F.length = F := by simp [fillL]
theorem fillL_set {F : List (List Int)} {i : Nat} (h : i < F.length) : (fillL F i).set i F[i] = fillL F (i + 1) := by
  unfold fillL
  rw [List.take_succ_eq_append_getElem h, List.set_append, if_neg (by rw [List.length_take]; omega), List.length_take, Nat.min_eq_left (by omega), Nat.sub_self, show F.length - i = (F.length - (i + 1)) + 1 by omega, List.replicate_succ, List.set_cons_zero, List.append_assoc]
  rfl
theorem redL_rd {p : Int} (hk : known p = true) (X : List Int) : updK (fun t => rd p (X.getD t 0)) (List.replicate X.length 0) 0 X.length = X.map (· % p) := by
  refine List.ext_getElem (by rw [updK_len]; simp) fun i h1 h2 => ?_
  rw [updK_len, List.length_replicate] at h1
  simp only [updK, List.getElem_map, List.getElem_range]
  rw [if_pos (by omega), getD_lt _ h1, rd, if_pos hk]

set_option maxRecDepth 100000 in
set_option maxHeartbeats 4000000 in
theorem mcopyOf_w (p : Int) [_hpU : U p] (hk : known p = true) (v : Value) (M : List (List Int)) (w : World) (hM : MatR w v M) (hn : M.length ≤ 100) (hr : ∀ i (h : i < M.length), M[i].length ≤ 100) :
    Calls Try.prog 62 #[.agg #[.int .u64 p], v] w fun e w' => ∃ v' rs, e = .returned v' ∧ OwnM w' (w.heap.size + 1) v' rs (redL p M) ∧ (∀ k (h : k < M.length), ∃ g, rs k = .slice (some ⟨g, 0, none⟩) M[k].length M[k].length) ∧ w.heap.size + 1 ≤ w'.heap.size ∧ Below w.heap.size w w' := by
  obtain ⟨a0, c0, rfl⟩ := hM.shape
  have HM := Lib.hid (And.intro hM (And.intro hr hk))
  have i1 : (M.length : Int) ≤ 100 := by omega
  clear hM hr hk
  go_enter Try.func62, Try.ntmps62
  go_wp2_with (at_make; refine make_rows rfl (.tmp 11) (.tmp 11) rfl (w.heap.size + 1) M.length rfl rfl (by omega) (by simp) ?_; intro v1 w1 hown1 hv1 hb1; subst hv1)
  have hb0 : Below w.heap.size w (w.alloc (.cells #[.int .u64 p] 27)) := Below.made (Nat.le_refl _) (Below.refl _ _) _
  have hbx : w1.cell? ⟨w.heap.size, 0, none⟩ = some (.int .u64 p) := (hb1.cell (by show w.heap.size < w.heap.size + 1; omega)).trans (by go_simp)
  have hb := hb0.trans (hb1.mono (by omega))
  have HO := Lib.hid (And.intro hown1 (And.intro hb hbx))
  have hsz := hb1.size
  simp only [World.size_alloc] at hsz
  clear hown1 hb1 hb hb0 hbx
  go_loopw [15] (fun iv wr => ∃ (i : Nat) (rs : Nat → Value), iv = .int .i64 i ∧ i ≤ M.length ∧ OwnM wr (w.heap.size + 1) (.slice (some ⟨w.heap.size + 1, 0, none⟩) M.length M.length) rs (fillL (redL p M) i) ∧ wr.cell? ⟨w.heap.size, 0, none⟩ = some (.int .u64 p) ∧ Below w.heap.size w wr ∧ w.heap.size + 1 ≤ wr.heap.size ∧ (∀ k (h : k < M.length), k < i → ∃ g, rs k = .slice (some ⟨g, 0, none⟩) M[k].length M[k].length)) (fun iv _ => M.length - (intOf iv).toNat)
  case atStart => exact ⟨0, _, rfl, Nat.zero_le _, by rw [fillL_zero, redL_len]; simpa using HO.out.1, HO.out.2.2, HO.out.2.1, hsz, fun k _ h => absurd h (Nat.not_lt_zero _)⟩
  case round =>
    obtain ⟨i, rs, rfl, hi, hown, hbx, hb, hsr, hex⟩ := hrel
    have i0 : (0 : Int) ≤ (i : Int) := by omega
    by_cases hlt : i < M.length
    · have HEX := Lib.hid hex
      clear hex
      obtain ⟨b, o, c, rv, e, hcw, hl⟩ := HM.out.1.rows i hlt
      have hc := Below.hold hb hcw
      clear hcw
      obtain ⟨rfl, rfl⟩ : a0 = some ⟨b, o, none⟩ ∧ c0 = c := by simp at e; exact e
      obtain ⟨ra, rc, rfl⟩ := hl.shape
      have hrl := HM.out.2.1 i hlt
      have hF := fillL_set (F := redL p M) (i := i) (by rw [redL_len]; exact hlt)
      rw [redL_at] at hF
      have hFl : (fillL (redL p M) i).length = M.length := by rw [fillL_len (by rw [redL_len]; omega), redL_len]
      obtain ⟨S, hS⟩ : ∃ S, S = fillL (redL p M) i := ⟨_, rfl⟩
      rw [← hS] at hown hF hFl
      obtain ⟨X, hX⟩ : ∃ X, X = M[i] := ⟨_, rfl⟩
      rw [← hX] at hl hrl hc hF
      have HX0 := Lib.hid hX
      have i3 : (i : Int) < (M.length : Int) := by omega
      have i4 : (X.length : Int) ≤ 100 := by omega
      have hci := hown.cell (i := i) (by omega)
      have hzi := hown.thawed i
      have HW := Lib.hid (And.intro hown (And.intro hb (And.intro hl (And.intro hF (And.intro hFl (And.intro hrl hbx))))))
      clear hown hl hF hX e hS
      go_wp2_with (at_make; refine make_zeros rfl (.tmp 23) (.tmp 23) rfl wr.heap.size X.length rfl rfl (by omega) (Nat.le_refl _) ?_; intro v1 w1 hown1 hv1 hb1; subst hv1; have hci1 := Below.hold hb1 hci; have hzi1 := (HW.out.1.hold hb1).thawed i)
      have hbl : ∀ k, k < S.length → k ≠ i → ∀ b, (rs k).ownBlock = some b → (Value.slice (some ⟨wr.heap.size, 0, none⟩) X.length X.length).ownBlock ≠ some b := fun k hk _ b hb e2 => by
        have := ((HW.out.1.row k hk).row.lt b hb).2
        have e3 : wr.heap.size = b := by simpa [Value.ownBlock] using e2
        omega
      have hst := (HW.out.1.hold hb1).setRow (i := i) (hown1.low hsr) hbl (fun e2 => by
        have := (HW.out.1.outer.lt (w.heap.size + 1) rfl).2
        have e3 : wr.heap.size = w.heap.size + 1 := by simpa [Value.ownBlock] using e2
        omega)
      have hb2 : Below w.heap.size w _ := OwnM.wroteO (Below.next (Nat.le_refl _) hb hb1) (by omega) (Nat.le_trans hb.size hb1.size) (HW.out.1.hold hb1) hst.2
      have hbx2 : (w1.setCell ⟨w.heap.size + 1, i, none⟩ (.slice (some ⟨wr.heap.size, 0, none⟩) X.length X.length)).cell? ⟨w.heap.size, 0, none⟩ = some (.int .u64 p) := by
        rw [World.cell?_setCell_far _ _ _ _ (by show w.heap.size + 1 ≠ w.heap.size; omega)]
        exact Below.hold hb1 HW.out.2.2.2.2.2.2
      have HS := Lib.hid (And.intro hst.1 (And.intro hb2 hbx2))
      obtain ⟨rs1, hrs1⟩ : ∃ f : Nat → Value, f = rsSet rs i (.slice (some ⟨wr.heap.size, 0, none⟩) X.length X.length) := ⟨_, rfl⟩
      have hr1 : rs1 i = .slice (some ⟨wr.heap.size, 0, none⟩) X.length X.length := by rw [hrs1, rsSet_at]
      have HE1 := Lib.hid (show ∀ k (h : k < M.length), k < i + 1 → ∃ g, rs1 k = .slice (some ⟨g, 0, none⟩) M[k].length M[k].length from fun k h hk => by
        rcases Nat.lt_succ_iff_lt_or_eq.1 hk with e | e
        · rw [hrs1, rsSet_off rs _ (by omega)]; exact HEX.out k h e
        · subst e; exact ⟨_, by rw [hr1, HX0.out]⟩)
      rw [← hrs1] at HS
      have hsz2 : w.heap.size + 1 ≤ w1.heap.size := Nat.le_trans hsr hb1.size
      clear hst hb2 hbl hci hzi hci1 hzi1 hown1 hb1 hbx2 hrs1 hbx hb
      obtain ⟨G, hG⟩ : ∃ G, G = wr.heap.size := ⟨_, rfl⟩
      rw [← hG] at HS hr1 ⊢
      have hGw : w.heap.size + 1 ≤ G := by omega
      clear hG hc
      go_loopw [28] (fun jv wi => ∃ j : Nat, jv = .int .i64 j ∧ j ≤ X.length ∧ OwnM wi (w.heap.size + 1) (.slice (some ⟨w.heap.size + 1, 0, none⟩) M.length M.length) rs1 (S.set i (updK (fun t => rd p (X.getD t 0)) (List.replicate X.length 0) 0 j)) ∧ wi.cell? ⟨w.heap.size, 0, none⟩ = some (.int .u64 p) ∧ Below w.heap.size w wi ∧ w.heap.size + 1 ≤ wi.heap.size) (fun jv _ => X.length - (intOf jv).toNat)
      case atStart => exact ⟨0, rfl, Nat.zero_le _, by rw [updK_zero]; exact HS.out.1, HS.out.2.2, HS.out.2.1, by simpa using hsz2⟩
      case round =>
        obtain ⟨j, rfl, hj, hown, hbx, hb, hsi⟩ := hrel
        have j0 : (0 : Int) ≤ (j : Int) := by omega
        by_cases hjl : j < X.length
        · obtain ⟨b1, o1, c1, e1, hcc⟩ := (HW.out.2.2.1.hold hb).cells j hjl
          obtain ⟨rfl, rfl⟩ : ra = some ⟨b1, o1, none⟩ ∧ rc = c1 := by simp at e1; exact e1
          clear e1
          have hiS : ∀ Y, i < (S.set i Y).length := fun Y => by rw [List.length_set, HW.out.2.2.2.2.1]; omega
          have hux := HW.out.2.2.1.us X[j] (List.getElem_mem hjl)
          have hco := hown.out (hiS _) hr1
          have hci := hown.cellIn (t := j) (hiS _) hr1 (List.getElem_set_self _) (by rw [updK_len]; simpa using hjl)
          have hup := updK_set0 (f := fun t => rd p (X.getD t 0)) (L := List.replicate X.length 0) (k := j)
          rw [getD_lt _ hjl] at hup
          obtain ⟨y, hy⟩ : ∃ y, y = (updK (fun t => rd p (X.getD t 0)) (List.replicate X.length 0) 0 j)[j]'(by rw [updK_len]; simpa using hjl) := ⟨_, rfl⟩
          rw [← hy] at hci
          obtain ⟨hcr, hzr, -⟩ := hci
          obtain ⟨x, hx⟩ : ∃ x, x = X[j] := ⟨_, rfl⟩
          rw [← hx] at hcc hux hup
          have j1 : (j : Int) < (X.length : Int) := by omega
          have HV := Lib.hid (And.intro hown (And.intro hb (And.intro hup hsi)))
          clear hown hb hup hx hy hjl hiS hsi
          go_wp2_with fail
          have k0 := fun q : NwAt wr => q.nw.hold hbx
          have k1 := fun q : NwAt wr => q.nw.hold hco
          have k2 := fun q : NwAt wr => q.nw.hold hcr
          have k3 := fun q : NwAt wr => q.nw.holdf hzr
          have k4 := fun q : NwAt wr => q.nw.hold hcc
          refine from_here ?_
          intro q
          refine wp_region_nwt 8 (by kernel_rfl) (by kernel_rfl) ?_
          simp only [List.take_succ_cons, List.take_zero, List.drop_succ_cons, List.drop_zero]
          repeat (go_big_quiet_step ((first | (go_at_call 56; exact nwAt_of (fReduce_u _ _ _)))))
          refine wpQuiet_nil ?_
          clear q
          rintro _ ⟨q, rfl⟩
          have m0 := k0 q
          have m2 := k2 q
          have m3 := k3 q
          clear k1 k2 k3 k4
          have hs := (HV.out.1.hold q.nw.b).setIn (by rw [HW.out.2.2.2.2.1]; omega) hr1 j (rd p x)
          rw [HV.out.2.2.1] at hs
          have hB2 := OwnM.wrote (Below.next (Nat.le_refl _) HV.out.2.1 q.nw.b) (Nat.le_succ _) (Nat.le_trans HV.out.2.1.size q.nw.b.size) (HV.out.1.hold q.nw.b) (i := i) (by rw [List.length_set, HW.out.2.2.2.2.1]; omega) hr1 hs.2
          have HSet := Lib.hid (And.intro hs.1 hB2)
          clear hs hB2
          go_wp2
          refine ⟨⟨j + 1, by go_num, by omega, HSet.out.1, ?_, HSet.out.2, ?_⟩, by simp [intOf]; omega⟩
          · rw [World.cell?_setCell_far _ _ _ _ (by show G ≠ w.heap.size; omega)]; exact m0
          · have h1 := HV.out.2.2.2
            have h2 := q.nw.b.size
            simp; omega
        · obtain rfl : j = X.length := by omega
          rw [redL_rd HM.out.2.2, HW.out.2.2.2.1] at hown
          have HF := Lib.hid (And.intro hown (And.intro hbx (And.intro hb hsi)))
          clear hown hbx hb hsi
          go_wp2
          exact ⟨⟨i + 1, rs1, by go_num, by omega, HF.out.1, HF.out.2.1, HF.out.2.2.1, HF.out.2.2.2, HE1.out⟩, by simp [intOf]; omega⟩
    · obtain rfl : i = M.length := by omega
      have HF := Lib.hid (And.intro hown (And.intro (show ∀ k (h : k < M.length), ∃ g, rs k = .slice (some ⟨g, 0, none⟩) M[k].length M[k].length from fun k h => hex k h h) (And.intro hsr hb)))
      clear hown hb hbx hsr hex
      go_wp2
      go_ret
      refine ⟨_, rs, rfl, ?_, HF.out.2⟩
      have h := HF.out.1
      rw [← redL_len p M, fillL_all, redL_len] at h
      exact h

/-- A row gets a multiple of another one added. -/
theorem addL_su {p : Int} (hk : known p = true) (y : Int) {R T : List Int} : updK (addL p (sb p 0 y) R T 0) R 0 T.length = suK p y R T T.length := by
  unfold suK
  refine List.ext_getElem (by rw [updK_len, updK_len]) fun i h1 h2 => ?_
  simp only [updK, List.getElem_map, List.getElem_range]
  split
  · unfold addL
    rw [Nat.sub_zero, ad_ival hk, ph_ml hk, ph_sb hk, ph_zero hk, sb_ival hk, ph_ml hk]
    congr 1; grind
  · rfl

set_option maxHeartbeats 4000000 in
theorem maddMul_w (p m : Int) [hm : U m] (base : Nat) (v va : Value) (L a : List Int) (w : World) (hown : Own w base v L) (hla : Lst w va a) (hoff : 0 < a.length → va.ownBlock ≠ v.ownBlock) (ho : a.length ≤ L.length) (hL : L.length ≤ 1000) :
    Calls Try.prog 74 #[.agg #[.int .u64 p], v, va, .int .u64 m] w fun e w' =>
      e = .returned (.tuple #[]) ∧ Own w' base v (updK (addL p m L a 0) L 0 a.length) ∧ w.grownBy w' v.ownBlock := by
  obtain ⟨a0, c0, rfl⟩ := hla.shape
  rcases hown.cases with ⟨rfl, rfl⟩ | ⟨g, cap, rfl, hgb, hgw, hlc, hcm⟩
  · have ha0 : a.length = 0 := by simpa using ho
    obtain rfl : a = [] := List.length_eq_zero_iff.1 ha0
    clear ha0
    go_enter Try.func74, Try.ntmps74
    go_wp2
    go_loopw [12] (fun iv wr => iv = .int .i64 0 ∧ wr = w.alloc (.cells #[.int .u64 p] 27)) (fun iv _ => 0)
    case atStart => exact ⟨rfl, rfl⟩
    case round =>
      obtain ⟨rfl, rfl⟩ := hrel
      go_wp2
      go_end0
      exact ⟨rfl, by rw [updK_zero]; exact Own.nil _ _, grown_below (Below.made (Nat.le_refl _) (Below.refl _ _) _)⟩
  · have HW := Lib.hid hown
    have HL := Lib.hid hla
    have HN := Lib.hid (And.intro hoff ho)
    clear hown hla hoff ho
    go_enter Try.func74, Try.ntmps74
    go_wp2
    go_loopw [12] (fun iv wr => ∃ k : Nat, iv = .int .i64 k ∧ k ≤ a.length ∧ wr.cell? ⟨w.heap.size, 0, none⟩ = some (.int .u64 p) ∧ Own wr base (.slice (some ⟨g, 0, none⟩) L.length cap) (updK (addL p m L a 0) L 0 k) ∧ w.grownBy wr (some g)) (fun iv _ => a.length - (intOf iv).toNat)
    case atStart => exact ⟨0, rfl, Nat.zero_le _, by go_simp, by rw [updK_zero]; exact HW.out.hold (Below.made (Nat.le_refl _) (Below.refl _ _) _), grown_below (Below.made (Nat.le_refl _) (Below.refl _ _) _)⟩
    case round =>
      obtain ⟨k, rfl, hk, hp, hown, hg⟩ := hrel
      by_cases hlt : k < a.length
      · have hok : k < L.length := by have := HN.out.2; omega
        have hc : wr.cell? ⟨g, k, none⟩ = some (.int .u64 L[k]) := by
          rw [hown.cell (by rw [updK_len]; exact hok), updK_at0 hok]
        have hz := hown.thawed k
        have hux := HW.out.us L[k] (List.getElem_mem hok)
        have hua := HL.out.us a[k] (List.getElem_mem hlt)
        obtain ⟨b, oa, ca, e, hca⟩ := (HL.out.kept hg HN.out.1).cells k hlt
        obtain ⟨rfl, rfl⟩ : a0 = some ⟨b, oa, none⟩ ∧ c0 = ca := by simp at e; exact e
        clear e
        have hset := updK_set0 (f := addL p m L a 0) (L := L) (k := k)
        have hval : addL p m L a 0 k = ad p L[k] (ml p a[k] m) := by
          unfold addL; rw [getD_lt _ hok, Nat.sub_zero, getD_lt _ hlt]
        rw [hval] at hset
        obtain ⟨x, hx⟩ : ∃ x, x = L[k] := ⟨_, rfl⟩
        obtain ⟨y, hy⟩ : ∃ y, y = a[k] := ⟨_, rfl⟩
        rw [← hx] at hux hc hset
        rw [← hy] at hua hca hset
        have i0 : (0 : Int) ≤ (k : Int) := by omega
        have i1 : (k : Int) < (a.length : Int) := by omega
        have i2 : (a.length : Int) ≤ 1000 := by have := HN.out.2; omega
        have i3 : (k : Int) < (L.length : Int) := by omega
        have HO := Lib.hid (And.intro hown (And.intro hg hset))
        clear hown hg hset hx hy hval
        go_wp2_with fail
        have k0 := fun q : NwAt wr => q.nw.hold hp
        have k1 := fun q : NwAt wr => q.nw.hold hc
        have k2 := fun q : NwAt wr => q.nw.hold hca
        have k3 := fun q : NwAt wr => q.nw.holdf hz
        refine from_here ?_
        intro q
        refine wp_region_nwt 12 (by kernel_rfl) (by kernel_rfl) ?_
        simp only [List.take_succ_cons, List.take_zero, List.drop_succ_cons, List.drop_zero]
        repeat (go_big_quiet_step ((first | (go_at_call 38; exact nwAt_of (fMul_u _ _ _ _)) | (go_at_call 97; exact nwAt_of (fAdd_u _ _ _ _)))))
        refine wpQuiet_nil ?_
        clear q
        rintro _ ⟨q, rfl⟩
        have j1 := k1 q
        have j3 := k3 q
        clear k1 k3
        go_wp2
        have hs := (HO.out.1.hold q.nw.b).set k (ad p x (ml p y m))
        refine ⟨⟨k + 1, by go_num, by omega, ?_, by rw [← HO.out.2.2]; exact hs.1, grown_trans (grown_next HO.out.2.1 q.nw.b) hs.2⟩, by simp [intOf]; omega⟩
        rw [World.cell?_setCell_far _ _ _ _ (by show g ≠ w.heap.size; omega)]
        exact k0 q
      · obtain rfl : k = a.length := by omega
        have HO := Lib.hid (And.intro hown hg)
        clear hown hg
        go_wp2
        go_end0
        exact ⟨rfl, HO.out.1, HO.out.2⟩

set_option maxHeartbeats 4000000 in
theorem mscale_w (p x : Int) [hx : U x] (base : Nat) (v : Value) (R : List Int) (w : World) (hown : Own w base v R) (hL : R.length ≤ 1000) :
    Calls Try.prog 101 #[.agg #[.int .u64 p], v, .int .u64 x] w fun e w' =>
      e = .returned (.tuple #[]) ∧ Own w' base v (scK p x R R.length) ∧ w.grownBy w' v.ownBlock := by
  rcases hown.cases with ⟨rfl, rfl⟩ | ⟨g, cap, rfl, hgb, hgw, hlc, hcm⟩
  · go_enter Try.func101, Try.ntmps101
    go_wp2
    go_loopw [9] (fun iv wr => iv = .int .i64 0 ∧ wr = w.alloc (.cells #[.int .u64 p] 27)) (fun iv _ => 0)
    case atStart => exact ⟨rfl, rfl⟩
    case round =>
      obtain ⟨rfl, rfl⟩ := hrel
      go_wp2
      go_end0
      exact ⟨rfl, by unfold scK; rw [updK_zero]; exact Own.nil _ _, grown_below (Below.made (Nat.le_refl _) (Below.refl _ _) _)⟩
  · have HW := Lib.hid hown
    clear hown
    go_enter Try.func101, Try.ntmps101
    go_wp2
    go_loopw [9] (fun iv wr => ∃ k : Nat, iv = .int .i64 k ∧ k ≤ R.length ∧ wr.cell? ⟨w.heap.size, 0, none⟩ = some (.int .u64 p) ∧ Own wr base (.slice (some ⟨g, 0, none⟩) R.length cap) (scK p x R k) ∧ w.grownBy wr (some g)) (fun iv _ => R.length - (intOf iv).toNat)
    case atStart => exact ⟨0, rfl, Nat.zero_le _, by go_simp, by unfold scK; rw [updK_zero]; exact HW.out.hold (Below.made (Nat.le_refl _) (Below.refl _ _) _), grown_below (Below.made (Nat.le_refl _) (Below.refl _ _) _)⟩
    case round =>
      obtain ⟨k, rfl, hk, hp, hown, hg⟩ := hrel
      by_cases hlt : k < R.length
      · have hc : wr.cell? ⟨g, k, none⟩ = some (.int .u64 R[k]) := by
          rw [hown.cell (by rw [scK_len]; exact hlt)]
          unfold scK
          rw [updK_at0 hlt]
        have hz := hown.thawed k
        have hux := HW.out.us R[k] (List.getElem_mem hlt)
        have hset : (scK p x R k).set k (ml p R[k] x) = scK p x R (k + 1) := by
          have h := updK_set0 (f := fun l => ml p (R.getD l 0) x) (L := R) (k := k)
          rw [getD_lt _ hlt] at h; exact h
        obtain ⟨y, hy⟩ : ∃ y, y = R[k] := ⟨_, rfl⟩
        rw [← hy] at hux hc hset
        have i0 : (0 : Int) ≤ (k : Int) := by omega
        have i1 : (k : Int) < (R.length : Int) := by omega
        have i2 : (R.length : Int) ≤ 1000 := by omega
        have HO := Lib.hid (And.intro hown (And.intro hg hset))
        clear hown hg hset hy
        go_wp2_with fail
        have k0 := fun q : NwAt wr => q.nw.hold hp
        have k1 := fun q : NwAt wr => q.nw.hold hc
        have k3 := fun q : NwAt wr => q.nw.holdf hz
        refine from_here ?_
        intro q
        refine wp_region_nwt 9 (by kernel_rfl) (by kernel_rfl) ?_
        simp only [List.take_succ_cons, List.take_zero, List.drop_succ_cons, List.drop_zero]
        repeat (go_big_quiet_step ((first | (go_at_call 38; exact nwAt_of (fMul_u _ _ _ _)))))
        refine wpQuiet_nil ?_
        clear q
        rintro _ ⟨q, rfl⟩
        have j1 := k1 q
        have j3 := k3 q
        clear k1 k3
        go_wp2
        have hs := (HO.out.1.hold q.nw.b).set k (ml p y x)
        refine ⟨⟨k + 1, by go_num, by omega, ?_, by rw [← HO.out.2.2]; exact hs.1, grown_trans (grown_next HO.out.2.1 q.nw.b) hs.2⟩, by simp [intOf]; omega⟩
        rw [World.cell?_setCell_far _ _ _ _ (by show g ≠ w.heap.size; omega)]
        exact k0 q
      · obtain rfl : k = R.length := by omega
        have HO := Lib.hid (And.intro hown hg)
        clear hown hg
        go_wp2
        go_end0
        exact ⟨rfl, HO.out.1, HO.out.2⟩

set_option maxHeartbeats 2000000 in
theorem mfirst_u (v : Value) (L : List (List Int)) (top j : Nat) (w : World) (hM : MatR w v L) (hn : L.length ≤ 1000) (ht : top ≤ L.length) (hr : ∀ i (h : i < L.length), j < L[i].length) (hj : j ≤ 1000) :
    Calls Try.prog 100 #[v, .int .i64 top, .int .i64 j] w fun e w' => ∃ k : Nat, e = .returned (.int .i64 k) ∧ top ≤ k ∧ k ≤ L.length ∧ (∀ i, top ≤ i → i < k → (L.getD i []).getD j 0 = 0) ∧ (k < L.length → (L.getD k []).getD j 0 ≠ 0) ∧ w' = w := by
  obtain ⟨a0, c0, rfl⟩ := hM.shape
  have HM := Lib.hid (And.intro hM hr)
  have i1 : (L.length : Int) ≤ 1000 := by omega
  have i2 : (j : Int) ≤ 1000 := by omega
  have i4 : (0 : Int) ≤ (j : Int) := by omega
  clear hM hr
  go_enter Try.func100, Try.ntmps100
  go_wp2
  go_loopw [1] (fun kv wr => ∃ k : Nat, kv = .int .i64 k ∧ top ≤ k ∧ k ≤ L.length ∧ (∀ i, top ≤ i → i < k → (L.getD i []).getD j 0 = 0) ∧ wr = w) (fun kv _ => L.length - (intOf kv).toNat)
  case atStart => exact ⟨top, rfl, Nat.le_refl _, ht, fun i h1 h2 => by omega, rfl⟩
  case round =>
    obtain ⟨k, rfl, hk1, hk2, hz, rfl⟩ := hrel
    have i0 : (0 : Int) ≤ (k : Int) := by omega
    by_cases hlt : k < L.length
    · obtain ⟨b, o, c, rv, e, hc, hl⟩ := HM.out.1.rows k hlt
      obtain ⟨rfl, rfl⟩ : a0 = some ⟨b, o, none⟩ ∧ c0 = c := by simp at e; exact e
      have hrk := HM.out.2 k hlt
      obtain ⟨b2, o2, c2, e2, hce⟩ := hl.cells j hrk
      rw [e2] at hc
      have hgd : (L.getD k []).getD j 0 = L[k][j] := by rw [getD_row hlt, getD_lt _ hrk]
      obtain ⟨x, hx⟩ : ∃ x, x = L[k][j] := ⟨_, rfl⟩
      rw [← hx] at hce hgd
      obtain ⟨n, hnn⟩ : ∃ n, n = L[k].length := ⟨_, rfl⟩
      rw [← hnn] at hc hrk
      have i5 : (k : Int) < (L.length : Int) := by omega
      have i6 : (j : Int) < (n : Int) := by omega
      by_cases hx0 : x = 0
      · have hxb : (x == 0) = true := by simpa using hx0
        have HZ := Lib.hid (And.intro hz (And.intro hgd hx0))
        clear hz hgd hx hl e e2 hx0 hnn
        go_wp2
        refine ⟨⟨k + 1, by go_num, by omega, by omega, fun i h1 h2 => ?_, by first | rfl | trivial⟩, by simp [intOf]; omega⟩
        rcases Nat.lt_succ_iff_lt_or_eq.1 h2 with e | e
        · exact HZ.out.1 i h1 e
        · subst e; rw [HZ.out.2.1]; exact HZ.out.2.2
      · have hxb : (x == 0) = false := by simpa using hx0
        have HZ := Lib.hid (And.intro hz (And.intro hgd hx0))
        clear hz hgd hx hl e e2 hx0 hnn
        go_wp2
        go_ret
        exact ⟨k, rfl, hk1, hk2, HZ.out.1, fun _ => by rw [HZ.out.2.1]; exact HZ.out.2.2, rfl⟩
    · obtain rfl : k = L.length := by omega
      have HZ := Lib.hid hz
      clear hz
      go_wp2
      go_ret
      exact ⟨_, rfl, hk1, hk2, HZ.out, fun h => absurd h (Nat.lt_irrefl _), rfl⟩
end Go.Proofs.Ytdcdaclkeocfpaa
