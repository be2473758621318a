/- The walk of the statement on lists. -/
import Derived.Test.YtdgnlagoagpejaaListE
import Derived.Test.YtdgnlagoagpejaaLawB
import Derived.Laws.AppendOwnNone
import Derived.OwnWalk
namespace Go.Proofs.Ytdgnlagoagpejaa
open Go.RowKit

theorem info_u64 : (Try.prog.info? 22).map (fun i => (i.zero, i.size, i.bytes)) = some (some (.int .u64 0), 1, 8) := by kernel_rfl
/-- The numbers f 0 .. f (n - 1) as a list of values. -/
def vals (n : Nat) (f : Nat → Int) : List Value := (List.range n).map fun i => .int .u64 (f i)
theorem vals_at {n i : Nat} (f : Nat → Int) (h : i < n) : (vals n f)[i]? = some (.int .u64 (f i)) := by simp [vals, h]
theorem vals_one {n : Nat} {f : Nat → Int} {u : Value} (h : u ∈ vals n f) : u.oneCell' = true := by
  simp only [vals, List.mem_map] at h
  obtain ⟨i, _, rfl⟩ := h
  rfl
theorem row_of_owns {w : World} {base n : Nat} {v : Value} {f : Nat → Int} (hn : n ≤ 200) (hr : ∀ i, 0 ≤ f i ∧ f i ≤ 18446744073709551615) (hne : v ≠ .slice none 0 0) (h : w.ownsRow base 22 1 v n (vals n f)) :
    RowOf w v n f ∧ ∃ b c, v = .slice (some ⟨b, 0, none⟩) n c ∧ base ≤ b ∧ b < w.heap.size := by
  have h0 := h
  rcases h.2 with ⟨e, _⟩ | ⟨g, cap, cur, rfl, hb, _⟩
  · exact absurd e hne
  · refine ⟨⟨hn, hr, ⟨_, _, rfl⟩, fun i hi => ⟨g, 0, cap, rfl, ?_⟩⟩, g, cap, rfl, hb, (h0.lt g rfl).2⟩
    rw [Nat.zero_add, h0.cellAt i (by omega)]
    exact vals_at f hi

theorem empty_made (W : World) (base k : Nat) (hk : k = W.heap.size) (hb : base ≤ W.heap.size) : (W.alloc (.cells #[] 22)).ownsRow base 22 1 (.slice (some ⟨k, 0, none⟩) 0 0) 0 [] := by
  subst hk; exact World.ownsRow_made W #[] 0 hb (by unfold maxLen; omega) rfl
/-- append of a whole list onto an empty row of the call's own. -/
theorem append_row {w : World} {ops : Array Oper} {rest : List Oper} {o : Oper} {a : Act} {Q : Exit → Act → World → Prop} (hgd : o.guard = none) (s x : Operand)
    (ho : o.op = .call { callee := .builtin .append, args := #[s, x], argTypes := #[33, 33] })
    (base : Nat) (b0 : Nat) (hs : a.eval s = .slice (some ⟨b0, 0, none⟩) 0 0) (hown : w.ownsRow base 22 1 (.slice (some ⟨b0, 0, none⟩) 0 0) 0 [])
    (v : Value) (n : Nat) (f : Nat → Int) (hx : a.eval x = v) (hr : RowOf w v n f) (hv : v = .slice none 0 0 ∨ ∃ a c, v = .slice (some a) n c) (hbase : base ≤ w.heap.size)
    (h : ∀ v' w', RowOf w' v' n f → (∃ b c, v' = .slice (some ⟨b, 0, none⟩) n c ∧ base ≤ b ∧ b < w'.heap.size) → Below base w w' → wpList Try.prog ops Q rest (a.put o.dst v') w') : wpList Try.prog ops Q (o :: rest) a w := by
  obtain ⟨i0, hi, hz0, hz1, hz2⟩ := info_parts info_u64
  have hsh := hr.short
  have hbb : base ≤ b0 := (hown.lt b0 rfl).1
  rcases hv with rfl | ⟨ad, c, rfl⟩
  · have hn : n = 0 := by
      obtain ⟨a', c', e⟩ := hr.form
      cases e; rfl
    subst hn
    refine wpList_append_own_none hgd s x _ ho base 22 i0 1 Try.underlying33 hi _ 0 [] hs hown hx ?_
    exact h _ _ (row_of_owns hsh hr.range (by intro e; cases e) hown).1 ⟨b0, 0, rfl, hbb, (hown.lt b0 rfl).2⟩ (Below.refl _ _)
  · refine wpList_append_own w hgd s x _ ho base 22 i0 (.int .u64 0) 1 8 Try.underlying33 hi hz0 hz1 hz2 rfl (by omega) _ 0 [] hs hown ad n c (vals n f) hx (by simp [vals]) ?_ (fun u hu => vals_one hu) (by unfold maxLen; omega) (by omega) hbase ?_
    · intro j u hj
      have hjn : j < n := by
        have := (List.getElem?_eq_some_iff.1 hj).1; simpa [vals] using this
      rw [vals_at f hjn] at hj
      cases hj
      obtain ⟨b1, o1, c1, e1, h1⟩ := hr.cells j hjn
      cases e1
      rw [Go.WideShapes.add_plain]
      exact h1
    · intro v' w' hown' hg hnil
      rw [List.nil_append, Nat.zero_add] at hown'
      have hne : v' ≠ .slice none 0 0 := fun e => by have := (hnil.1 e).1; cases this
      obtain ⟨r1, r2⟩ := row_of_owns hsh hr.range hne hown'
      exact h v' w' r1 r2 ((Below.refl _ _).grown hg hbase (fun k e => by cases e; exact hbb))

set_option maxHeartbeats 4000000 in
theorem fInverses_no (p : Int) (a0 : Option Addr) (n c : Nat) (w : World) (hk : known p = false) :
    Calls Try.prog 45 #[.agg #[.int .u64 p], .slice a0 n c] w fun e w' => e = .returned (.slice none 0 0) ∧ Nw w.heap.size w w' := by
  have HK := Lib.hid hk
  clear hk
  go_enter Try.func45, Try.ntmps45
  go_wp2_with (go_at_call 31; refine (valid_any _ _).mono ?_; rintro e w1 ⟨rfl, hb1⟩; rw [HK.out])
  go_ret
  exact ⟨rfl, by (repeat (first | exact Nw.refl _ _ | refine Nw.drew ?_ | refine Nw.drewN ?_ _ | refine Nw.made (Nat.le_refl _) ?_ _ _ | refine Nw.next (Nat.le_refl _) ?_ (by assumption)))⟩

set_option maxHeartbeats 4000000 in
theorem same_rows (n : Nat) (v u : Value) (f : Nat → Int) (w : World) (h1 : RowOf w v n f) (h2 : RowOf w u n f) :
    Calls Try.prog 28 #[v, u] w fun e w' => e = .returned (.bool true) ∧ Nw w.heap.size w w' := by
  have hsh := h1.short
  obtain ⟨a0, c0, rfl⟩ := h1.form
  obtain ⟨a1, c1, rfl⟩ := h2.form
  have H1 := Lib.hid h1
  have H2 := Lib.hid h2
  clear h1 h2
  go_enter Try.func28, Try.ntmps28
  go_wp2
  go_loopw [5] (fun iv wr => ∃ k m : Nat, iv = .int .i64 k ∧ k ≤ n ∧ wr = w.drewN m) (fun iv _ => n - (intOf iv).toNat)
  case atStart => exact ⟨0, 0, rfl, Nat.zero_le _, rfl⟩
  case round =>
    obtain ⟨k, m, rfl, hk, rfl⟩ := hrel
    by_cases hlt : k < n
    · obtain ⟨b1, o1, d1, he1, g1⟩ := H1.out.cells k hlt
      obtain ⟨b2, o2, d2, he2, g2⟩ := H2.out.cells k hlt
      cases he1
      cases he2
      have i0 : (0 : Int) ≤ (k : Int) := by omega
      have i1 : (k : Int) < (n : Int) := by omega
      go_wp2_with fail
      go_quiet (fail)
      go_wp2
      exact ⟨⟨k + 1, m + _, rfl, by omega, rfl⟩, by simp [intOf]; omega⟩
    · go_wp2
      go_ret
      exact ⟨rfl, by (repeat (first | exact Nw.refl _ _ | refine Nw.drew ?_ | refine Nw.drewN ?_ _ | refine Nw.made (Nat.le_refl _) ?_ _ _ | refine Nw.next (Nat.le_refl _) ?_ (by assumption)))⟩

set_option maxHeartbeats 4000000 in
theorem law_lists_big (p : Int) (a0 a1 : Option Addr) (n c m d : Nat) (h : 200 < n ∨ 200 < m) (hn : n ≤ 9223372036854775807) (hm : m ≤ 9223372036854775807) (w : World) :
    Calls Try.prog 8 #[.int .u64 p, .slice a0 n c, .slice a1 m d] w fun e w' => e = .returned (.bool true) ∧ Nw w.heap.size w w' := by
  by_cases hn2 : 200 < n
  · clear h
    go_enter Try.func8, Try.ntmps8
    go_wp2_with (go_at_call 12; refine (awake_any _).mono ?_; rintro e w1 ⟨rfl, hb1⟩)
    go_ret
    exact ⟨rfl, by (repeat (first | exact Nw.refl _ _ | refine Nw.drew ?_ | refine Nw.drewN ?_ _ | refine Nw.made (Nat.le_refl _) ?_ _ _ | refine Nw.next (Nat.le_refl _) ?_ (by assumption)))⟩
  · have hm2 : 200 < m := by omega
    clear h
    go_enter Try.func8, Try.ntmps8
    go_wp2_with (go_at_call 12; refine (awake_any _).mono ?_; rintro e w1 ⟨rfl, hb1⟩)
    go_ret
    exact ⟨rfl, by (repeat (first | exact Nw.refl _ _ | refine Nw.drew ?_ | refine Nw.drewN ?_ _ | refine Nw.made (Nat.le_refl _) ?_ _ _ | refine Nw.next (Nat.le_refl _) ?_ (by assumption)))⟩

theorem lists_mid {w w1 w2 : World} {c c' d : Array Value} {t t' u : TypeId} (hb1 : Nw w.heap.size w w1) (hb2 : Below (w1.heap.size + 1) ((w1.alloc (.cells c t)).alloc (.cells c' t')) w2) :
    Below w.heap.size w (w2.alloc (.cells d u)) := by
  have h1 := hb1.b.size
  have h2 : Below w.heap.size w ((w1.alloc (.cells c t)).alloc (.cells c' t')) := (hb1.b.alloc h1 _).alloc (by simp; omega) _
  have h3 := h2.trans (hb2.mono (by omega))
  exact h3.alloc h3.size _

theorem lists_box {w1 w2 w3 : World} {x : Value} {d d' : Array Value} {t u u' : TypeId} (hb2 : Below (w1.heap.size + 1) ((w1.alloc (.cells #[x] t)).alloc (.cells d u)) w2) (hb3 : Below w2.heap.size (w2.alloc (.cells d' u')) w3) :
    w3.cell? ⟨w1.heap.size, 0, none⟩ = some x := by
  have h0 : ((w1.alloc (.cells #[x] t)).alloc (.cells d u)).cell? ⟨w1.heap.size, 0, none⟩ = some x := by go_simp
  have h1 : w2.cell? ⟨w1.heap.size, 0, none⟩ = some x := (hb2.cell (p := ⟨w1.heap.size, 0, none⟩) (by show w1.heap.size < _; omega)).trans h0
  have hs := hb2.size
  simp at hs
  refine (hb3.cell (p := ⟨w1.heap.size, 0, none⟩) (by show w1.heap.size < _; omega)).trans ?_
  exact (World.cell?_alloc_lt w2 _ ⟨w1.heap.size, 0, none⟩ (by show w1.heap.size < _; omega)).trans h1

set_option maxHeartbeats 8000000 in
theorem law_lists_unknown (p : Int) (v u : Value) (n m : Nat) (f g : Nat → Int) (hk : known p = false) (w : World) (hr : RowOf w v n f) (hs : RowOf w u m g)
    (hv : v = .slice none 0 0 ∨ ∃ a c, v = .slice (some a) n c) (hu : u = .slice none 0 0 ∨ ∃ a c, u = .slice (some a) m c) :
    Calls Try.prog 8 #[.int .u64 p, v, u] w fun e w' => e = .returned (.bool true) ∧ Below w.heap.size w w' := by
  have hsh := hr.short
  have hsh' := hs.short
  obtain ⟨a0, c0, rfl⟩ := hr.form
  obtain ⟨a1, c1, rfl⟩ := hs.form
  have n1 : (n : Int) ≤ 200 := by omega
  have m1 : (m : Int) ≤ 200 := by omega
  have HR := Lib.hid hr
  have HS := Lib.hid hs
  have HV := Lib.hid hv
  have HU := Lib.hid hu
  have HK := Lib.hid hk
  clear hr hs hv hu hk
  go_enter Try.func8, Try.ntmps8
  go_wp2_with (first
    | (go_at_call 12; refine (awake_any _).mono ?_; rintro e w1 ⟨rfl, hb1⟩)
    | (at_builtin; refine append_row rfl (.tmp 28) (.tmp 29) rfl (w1.heap.size + 1) (w1.heap.size + 1) rfl (empty_made _ _ _ (by simp) (by simp)) _ n f rfl (HR.out.hold (((Nw.next (Nat.le_refl _) (Nw.refl _ _) hb1).made (Nat.le_refl _) _ _).made (Nat.le_refl _) _ _)) HV.out (by simp) ?_; intro v1 w2 hr1 hv1 hb2; obtain ⟨bx, cx, rfl, hbx, hbx2⟩ := hv1)
    | (at_builtin; refine append_row rfl (.tmp 31) (.tmp 32) rfl w2.heap.size w2.heap.size rfl (empty_made _ _ _ rfl (Nat.le_refl _)) _ m g rfl (HS.out.below (lists_mid hb1 hb2)) HU.out (by simp) ?_; intro v2 w3 hr2 hv2 hb3; obtain ⟨bb, cb, rfl, hby, hby2⟩ := hv2; have c3 := lists_box hb2 hb3))
  have hs2 : w1.heap.size + 2 ≤ w2.heap.size := by have := hb2.size; simp at this; omega
  have hs1 : w.heap.size ≤ w1.heap.size := hb1.b.size
  have low3 : Below w.heap.size w w3 := ((lists_mid hb1 hb2 (d := #[]) (u := 22)).trans (hb3.mono (by omega)))
  have hx3 := hr1.below (((Below.refl w2.heap.size w2).alloc (Nat.le_refl _) _).trans hb3)
  have ha3 := HR.out.below low3
  have hu3 := HS.out.below low3
  have hbx3 : bx < w3.heap.size := Nat.lt_of_lt_of_le hbx2 (by have := hb3.size; simp at this; omega)
  have LOW := Lib.hid low3
  have HX := Lib.hid hx3
  have HA := Lib.hid ha3
  have HB := Lib.hid hu3
  have HY := Lib.hid hr2
  clear hb1 hb2 hb3 hr1 hr2 low3 hx3 ha3 hu3 HR HS HV HU hs1 hs2 hbx hbx2 hby hby2
  refine (fSum_any p _ n f _ HX.out).mono ?_
  rintro e w4 ⟨rfl, hb4⟩
  go_wp2_with fail
  refine (rSum_any p _ n f _ (HA.out.hold hb4)).mono ?_
  rintro e w5 ⟨rfl, hb5⟩
  have s5 : Nw w3.heap.size w3 w5 := by (repeat (first | exact Nw.refl _ _ | refine Nw.drew ?_ | refine Nw.drewN ?_ _ | refine Nw.made (Nat.le_refl _) ?_ _ _ | refine Nw.next (Nat.le_refl _) ?_ (by assumption)))
  have c5 := s5.hold c3
  clear hb4 hb5
  go_wp2_with fail
  refine (fDot_any p _ _ n m f g _ (HX.out.hold s5) (HY.out.hold s5)).mono ?_
  rintro e w6 ⟨rfl, hb6⟩
  go_wp2_with fail
  refine (rDot_any p _ _ n m f g _ (HA.out.hold (Nw.next (Nat.le_refl _) s5 hb6)) (HB.out.hold (Nw.next (Nat.le_refl _) s5 hb6))).mono ?_
  rintro e w7 ⟨rfl, hb7⟩
  have s7 : Nw w3.heap.size w3 w7 := by (repeat (first | exact Nw.refl _ _ | refine Nw.drew ?_ | refine Nw.drewN ?_ _ | refine Nw.made (Nat.le_refl _) ?_ _ _ | refine Nw.next (Nat.le_refl _) ?_ (by assumption)))
  have c7 := s7.hold c3
  clear hb6 hb7 s5 c5 c3
  go_wp2_with fail
  refine (fInverses_no p _ n cx _ HK.out).mono ?_
  rintro e w8 ⟨rfl, hb8⟩
  go_wp2_with fail
  refine (rValid_any _ _).mono ?_
  rintro e w9 ⟨rfl, hb9⟩
  rw [HK.out]
  go_wp2_with fail
  go_ret
  have s9 : Nw w3.heap.size w3 w9 := by (repeat (first | exact Nw.refl _ _ | refine Nw.drew ?_ | refine Nw.drewN ?_ _ | refine Nw.made (Nat.le_refl _) ?_ _ _ | refine Nw.next (Nat.le_refl _) ?_ (by assumption)))
  exact ⟨rfl, LOW.out.trans (s9.b.mono LOW.out.size)⟩

set_option maxHeartbeats 8000000 in
theorem law_lists_known (p : Int) (v u : Value) (n m : Nat) (f g : Nat → Int) (hk : known p = true) (w : World) (hr : RowOf w v n f) (hs : RowOf w u m g)
    (hv : v = .slice none 0 0 ∨ ∃ a c, v = .slice (some a) n c) (hu : u = .slice none 0 0 ∨ ∃ a c, u = .slice (some a) m c) :
    Calls Try.prog 8 #[.int .u64 p, v, u] w fun e w' => e = .returned (.bool true) ∧ Below w.heap.size w w' := by
  have hsh := hr.short
  have hsh' := hs.short
  obtain ⟨a0, c0, rfl⟩ := hr.form
  obtain ⟨a1, c1, rfl⟩ := hs.form
  have n1 : (n : Int) ≤ 200 := by omega
  have m1 : (m : Int) ≤ 200 := by omega
  have HR := Lib.hid hr
  have HS := Lib.hid hs
  have HV := Lib.hid hv
  have HU := Lib.hid hu
  have HK := Lib.hid hk
  clear hr hs hv hu hk
  go_enter Try.func8, Try.ntmps8
  go_wp2_with (first
    | (go_at_call 12; refine (awake_any _).mono ?_; rintro e w1 ⟨rfl, hb1⟩)
    | (at_builtin; refine append_row rfl (.tmp 28) (.tmp 29) rfl (w1.heap.size + 1) (w1.heap.size + 1) rfl (empty_made _ _ _ (by simp) (by simp)) _ n f rfl (HR.out.hold (((Nw.next (Nat.le_refl _) (Nw.refl _ _) hb1).made (Nat.le_refl _) _ _).made (Nat.le_refl _) _ _)) HV.out (by simp) ?_; intro v1 w2 hr1 hv1 hb2; obtain ⟨bx, cx, rfl, hbx, hbx2⟩ := hv1)
    | (at_builtin; refine append_row rfl (.tmp 31) (.tmp 32) rfl w2.heap.size w2.heap.size rfl (empty_made _ _ _ rfl (Nat.le_refl _)) _ m g rfl (HS.out.below (lists_mid hb1 hb2)) HU.out (by simp) ?_; intro v2 w3 hr2 hv2 hb3; obtain ⟨bb, cb, rfl, hby, hby2⟩ := hv2; have c3 := lists_box hb2 hb3))
  have hs2 : w1.heap.size + 2 ≤ w2.heap.size := by have := hb2.size; simp at this; omega
  have hs1 : w.heap.size ≤ w1.heap.size := hb1.b.size
  have low3 : Below w.heap.size w w3 := ((lists_mid hb1 hb2 (d := #[]) (u := 22)).trans (hb3.mono (by omega)))
  have hx3 := hr1.below (((Below.refl w2.heap.size w2).alloc (Nat.le_refl _) _).trans hb3)
  have ha3 := HR.out.below low3
  have hu3 := HS.out.below low3
  have hbx3 : bx < w3.heap.size := Nat.lt_of_lt_of_le hbx2 (by have := hb3.size; simp at this; omega)
  have LOW := Lib.hid low3
  have HX := Lib.hid hx3
  have HA := Lib.hid ha3
  have HB := Lib.hid hu3
  have HY := Lib.hid hr2
  clear hb1 hb2 hb3 hr1 hr2 low3 hx3 ha3 hu3 HR HS HV HU hs1 hs2 hbx hbx2 hby hby2
  refine (fSum_any p _ n f _ HX.out).mono ?_
  rintro e w4 ⟨rfl, hb4⟩
  go_wp2_with fail
  refine (rSum_any p _ n f _ (HA.out.hold hb4)).mono ?_
  rintro e w5 ⟨rfl, hb5⟩
  have s5 : Nw w3.heap.size w3 w5 := by (repeat (first | exact Nw.refl _ _ | refine Nw.drew ?_ | refine Nw.drewN ?_ _ | refine Nw.made (Nat.le_refl _) ?_ _ _ | refine Nw.next (Nat.le_refl _) ?_ (by assumption)))
  have c5 := s5.hold c3
  clear hb4 hb5
  go_wp2_with fail
  refine (fDot_any p _ _ n m f g _ (HX.out.hold s5) (HY.out.hold s5)).mono ?_
  rintro e w6 ⟨rfl, hb6⟩
  go_wp2_with fail
  refine (rDot_any p _ _ n m f g _ (HA.out.hold (Nw.next (Nat.le_refl _) s5 hb6)) (HB.out.hold (Nw.next (Nat.le_refl _) s5 hb6))).mono ?_
  rintro e w7 ⟨rfl, hb7⟩
  have s7 : Nw w3.heap.size w3 w7 := by (repeat (first | exact Nw.refl _ _ | refine Nw.drew ?_ | refine Nw.drewN ?_ _ | refine Nw.made (Nat.le_refl _) ?_ _ _ | refine Nw.next (Nat.le_refl _) ?_ (by assumption)))
  have c7 := s7.hold c3
  clear hb6 hb7 s5 c5 c3
  go_wp2_with fail
  refine (fInverses_yes p _ n f _ HK.out (HX.out.hold s7) (fun b o c e => by cases e; exact Nat.lt_of_lt_of_le hbx3 s7.b.size)).mono ?_
  rintro e w8 ⟨bl, cl, rfl, hl, hb8⟩
  have hpl := known_lo HK.out
  have hph := known_hi HK.out
  have HL := Lib.hid hl
  have low8 : Below w3.heap.size w3 w8 := s7.b.trans (hb8.mono s7.b.size)
  have HA8 := Lib.hid (HA.out.below low8)
  have HX8 := Lib.hid (HX.out.below low8)
  have LOW8 := Lib.hid (LOW.out.trans (low8.mono LOW.out.size))
  clear hl low8 hb8 s7 c7 hbx3 HA HX HB HY LOW
  go_wp2_with fail
  refine (rValid_any _ _).mono ?_
  rintro e w9 ⟨rfl, hb9⟩
  rw [HK.out]
  go_wp2_with fail
  refine (same_rows n _ _ f _ (HX8.out.hold hb9) (HA8.out.hold hb9)).mono ?_
  rintro e wA ⟨rfl, hbA⟩
  have sA : Nw w8.heap.size w8 wA := by (repeat (first | exact Nw.refl _ _ | refine Nw.drew ?_ | refine Nw.drewN ?_ _ | refine Nw.made (Nat.le_refl _) ?_ _ _ | refine Nw.next (Nat.le_refl _) ?_ (by assumption)))
  clear hb9 hbA
  go_wp2_with fail
  go_loopw [74] (fun iv wr => ∃ k : Nat, iv = .int .i64 k ∧ k ≤ n ∧ Nw w8.heap.size w8 wr) (fun iv _ => n - (intOf iv).toNat)
  case atStart => exact ⟨0, rfl, Nat.zero_le _, sA⟩
  case round =>
    obtain ⟨k, rfl, hk, hnr⟩ := hrel
    clear sA
    by_cases hlt : k < n
    · obtain ⟨x, hx, i1, i2, i3⟩ := HL.out k hlt
      have hxr := hnr.hold hx
      obtain ⟨b, o, c, he, hc⟩ := (HA8.out.hold hnr).cells k hlt
      obtain ⟨g0, g1⟩ := HA8.out.range k
      cases he
      clear hx
      have j0 : (0 : Int) ≤ (k : Int) := by omega
      have j1 : (k : Int) < (n : Int) := by omega
      have j2 : ¬ p ≤ x := by omega
      have j3 : ¬ p = 0 := by omega
      have j4 : 0 < p := by omega
      rcases i3 with i3 | ⟨i3, i4⟩
      · have e1 : ml p x (f k) = 1 := by rw [ml, if_pos HK.out]; exact i3
        have E1 := Lib.hid e1
        clear e1 i3
        go_wp2_with (go_at_call 22; refine (rMul_any _ _ _ (by omega) (by omega) (by omega) (by omega) _).mono ?_; rintro e wB ⟨rfl, hbB⟩; rw [E1.out])
        exact ⟨⟨k + 1, rfl, by omega, Nw.next (Nat.le_refl _) hnr hbB⟩, by simp [intOf]; omega⟩
      · subst i3
        have e1 : ml p 0 (f k) = 0 := by rw [ml, if_pos HK.out, Int.zero_mul, Int.zero_emod]
        have E1 := Lib.hid e1
        clear e1
        go_wp2_with (go_at_call 22; refine (rMul_any _ _ _ (by omega) (by omega) (by omega) (by omega) _).mono ?_; rintro e wB ⟨rfl, hbB⟩; rw [E1.out]; have hc2 := hbB.hold hc)
        exact ⟨⟨k + 1, rfl, by omega, Nw.next (Nat.le_refl _) hnr hbB⟩, by simp [intOf]; omega⟩
    · obtain rfl : n = k := by omega
      go_wp2_with fail
      go_ret
      exact ⟨rfl, LOW8.out.trans (hnr.b.mono LOW8.out.size)⟩
end Go.Proofs.Ytdgnlagoagpejaa
