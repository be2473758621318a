/- The walk of package field's Inverses. -/
import Derived.Test.YtdgnlagoagpejaaListD
import Derived.Test.YtdgnlagoagpejaaRound
import Derived.Laws.MakeOwn
import Derived.Laws.NewBlocks
import Derived.Outline
namespace Go.Proofs.Ytdgnlagoagpejaa
open Go.RowKit Go.Shelf
attribute [local go_sem] Oper.semAt_some

/-- How Inverses ends: a list in memory of its own, whose numbers are the inverses. -/
def InvPost (p : Int) (n : Nat) (f : Nat → Int) (w : World) (e : Ending) (w' : World) : Prop :=
  ∃ b c, e = .returned (.slice (some ⟨b, 0, none⟩) n c) ∧ (∀ i, i < n → ∃ u, w'.cell? ⟨b, i, none⟩ = some (.int .u64 u) ∧ InvOf p (f i) u) ∧ Below w.heap.size w w'

/-- Between two rounds of the way back. -/
def BackI (p : Int) (f : Nat → Int) (n B0 B BC : Nat) (w : World) (pre : List (Fin n)) (W : World) : Prop :=
  (W.cell? ⟨B0, 0, none⟩ = some (.int .u64 p) ∧ W.cell? ⟨B + 1, 0, none⟩ = some (.slice (some ⟨B, 0, none⟩) n n) ∧ W.cell? ⟨BC, 0, none⟩ = some (.int .u64 (backSt p f n pre).2) ∧ W.frozen? ⟨BC, 0, none⟩ = false ∧
    (∀ i, i < n → W.cell? ⟨B, i, none⟩ = some (.int .u64 ((backSt p f n pre).1 i))) ∧ (∀ i, i < n → W.frozen? ⟨B, i, none⟩ = false)) ∧ Below w.heap.size w W
theorem backI_own (p : Int) (f : Nat → Int) (n B BC : Nat) (w W5 : World) (h : w.heap.size ≤ W5.heap.size) : OwnFrom W5.heap.size (BackI p f n w.heap.size B BC w) :=
  OwnFrom.and (Own.from (fun _ _ _ _ hs hg hr => ⟨cell_kept hs.1 hg hr, cell_kept hs.2.1 hg hr, cell_kept hs.2.2.1 hg hr, (frozen_kept hs.2.2.1 hg hr).trans hs.2.2.2.1,
    fun i hi => cell_kept (hs.2.2.2.2.1 i hi) hg hr, fun i hi => (frozen_kept (hs.2.2.2.2.1 i hi) hg hr).trans (hs.2.2.2.2.2 i hi)⟩) _) (ownFrom_below (Nat.le_refl _) h)

/-- From W to W' at most the cells of X have turned, and new blocks have come. -/
structure Pres (X : Addr → Prop) (n₀ : Nat) (W W' : World) : Prop where
  cell : ∀ a v, ¬ X a → W.cell? a = some v → W'.cell? a = some v
  other : ∀ (k : Nat) (o : Obj), W.heap[k]? = some o → o.isCells = false → W'.heap[k]? = some o
  size : W.heap.size ≤ W'.heap.size
  frozen : ∀ a, W'.frozen? a = W.frozen? a
  low : Below n₀ W W'
theorem Pres.of_nw {X : Addr → Prop} {n₀ : Nat} {W W' : World} (h : Nw W.heap.size W W') (hn : n₀ ≤ W.heap.size) : Pres X n₀ W W' :=
  ⟨fun _ _ _ hv => h.hold hv, fun k _ hk _ => (h.b.block k (Array.getElem?_eq_some_iff.1 hk).1).trans hk, h.b.size, h.f, h.b.mono hn⟩
theorem Pres.set {X : Addr → Prop} {n₀ : Nat} {W : World} {p : Addr} (hX : X p) (hn : n₀ ≤ p.block) (v : Value) : Pres X n₀ W (W.setCell p v) :=
  ⟨fun a u ha hu => (World.cell?_setCell_other _ _ _ _ (by rintro rfl; exact ha hX)).trans hu, fun k o hk ho => (KeepsOthers.setCell W p v).same k o hk ho, by simp [World.setCell], fun a => World.frozen?_setCell _ _ _ _, (Below.refl _ _).setCell hn v⟩
theorem Pres.trans {X : Addr → Prop} {n₀ : Nat} {A B C : World} (h : Pres X n₀ A B) (k : Pres X n₀ B C) : Pres X n₀ A C :=
  ⟨fun a v ha hv => k.cell a v ha (h.cell a v ha hv), fun i o hi ho => k.other i o (h.other i o hi ho) ho, Nat.le_trans h.size k.size, fun a => (k.frozen a).trans (h.frozen a), h.low.trans k.low⟩
theorem Pres.drew {X : Addr → Prop} {n₀ : Nat} {A B : World} (h : Pres X n₀ A B) : Pres X n₀ A B.drew := ⟨h.cell, h.other, h.size, h.frozen, h.low.drew⟩

theorem back_close {p : Int} {f : Nat → Int} {n B BC : Nat} {w W W' : World} {pre : List (Fin n)} {x : Fin n} {g' c' : Int} (M : Nat) (hB : w.heap.size < B) (hBC : B + 2 ≤ BC) (hI : BackI p f n w.heap.size B BC w pre W)
    (hP : Pres (fun a => a = ⟨B, x.val, none⟩ ∨ a = ⟨BC, 0, none⟩) w.heap.size W W') (hx : W'.cell? ⟨B, x.val, none⟩ = some (.int .u64 g')) (hc : W'.cell? ⟨BC, 0, none⟩ = some (.int .u64 c'))
    (e1 : ∀ j, (backStep p f (backSt p f n pre) x.val).1 j = if j = x.val then g' else (backSt p f n pre).1 j) (e2 : (backStep p f (backSt p f n pre) x.val).2 = c') :
    KeepsFrom M W W' ∧ KeepsCells w.heap.size (BC + 1) W W' ∧ BackI p f n w.heap.size B BC w (pre ++ [x]) W' := by
  obtain ⟨⟨d0, d1, d2, d3, d4, d5⟩, dB⟩ := hI
  refine ⟨⟨hP.size, fun k o _ hk ho => hP.other k o hk ho⟩, fun a v ha hv => hP.cell a v ?_ hv, ⟨?_, ?_, ?_, ?_, ?_, ?_⟩, dB.trans hP.low⟩
  · rintro (rfl | rfl)
    · rcases ha with ha | ha <;> simp at ha <;> omega
    · rcases ha with ha | ha <;> simp at ha <;> omega
  · exact hP.cell _ _ (by
      rintro (h | h)
      · have : w.heap.size = B := congrArg Addr.block h; omega
      · have : w.heap.size = BC := congrArg Addr.block h; omega) d0
  · exact hP.cell _ _ (by
      rintro (h | h)
      · have : B + 1 = B := congrArg Addr.block h; omega
      · have : B + 1 = BC := congrArg Addr.block h; omega) d1
  · rw [backSt_snoc, e2]; exact hc
  · rw [hP.frozen]; exact d3
  · intro i hi
    rw [backSt_snoc, e1]
    by_cases hix : i = x.val
    · rw [if_pos hix, hix]; exact hx
    · rw [if_neg hix]
      refine hP.cell _ _ ?_ (d4 i hi)
      rintro (h | h)
      · exact hix (congrArg Addr.off h)
      · have : B = BC := congrArg Addr.block h; omega
  · intro i hi
    rw [hP.frozen]; exact d5 i hi

set_option maxRecDepth 100000 in
set_option maxHeartbeats 8000000 in
theorem fInverses_yes (p : Int) (v : Value) (n : Nat) (f : Nat → Int) (w : World) (hk : known p = true) (hr : RowOf w v n f) (hlow : ∀ b o c, v = .slice (some ⟨b, o, none⟩) n c → b < w.heap.size) :
    Calls Try.prog 45 #[.agg #[.int .u64 p], v] w (InvPost p n f w) := by
  have hsh := hr.short
  obtain ⟨a0, c0, rfl⟩ := hr.form
  have hpl := known_lo hk
  have hph := known_hi hk
  have n0 : 0 ≤ (n : Int) := by omega
  have n1 : (n : Int) ≤ 200 := by omega
  have hmk := fun w => run_make (P := Try.prog) w 33 22 Try.t22 (.int .u64 0) Try.underlying33 (by kernel_rfl) (by kernel_rfl) .i64 .i64 n n n0 (Int.le_refl _) (by show ((8 : Nat) : Int) * n ≤ _; omega) (by omega)
  have HR := Lib.hid hr
  have HK := Lib.hid hk
  have HL := Lib.hid hlow
  clear hr hk hlow
  refine (callsIn_wide (n := 3)).1 ?_
  refine callsIn_of_wp_marks Try.func45 rfl trivial ?_ rfl
  refine wpIn_wide.2 ?_
  simp only [Try.ntmps45, List.size_toArray, List.length_cons, List.length_nil, Nat.reduceAdd, Nat.reduceSub, Array.replicate_succ, Array.replicate_zero, List.push_toArray, List.append_toArray, List.nil_append, List.cons_append]
  go_wp2_with (go_at_call 31; refine (valid_any _ _).mono ?_; rintro e w1 ⟨rfl, hb1⟩; rw [HK.out])
  obtain ⟨W0, hW0⟩ : ∃ W0, W0 = (w1.alloc (.cells (madeCells #[.int .u64 0] (n * Try.t22.size)) 22)).alloc (.cells #[.slice (some ⟨w1.heap.size, 0, none⟩) n n] 33) := ⟨_, rfl⟩
  have c0 : W0.cell? ⟨w.heap.size, 0, none⟩ = some (.int .u64 p) := by
    rw [hW0]; exact (((Nw.refl _ _).made (Nat.le_refl _) _ _).made (Nat.le_refl _) _ _).hold (hb1.hold (by go_simp))
  have c1 : W0.cell? ⟨w1.heap.size + 1, 0, none⟩ = some (.slice (some ⟨w1.heap.size, 0, none⟩) n n) := by rw [hW0]; go_simp
  have h1 := Lib.hid (made_some w1 n)
  have h2 := Lib.hid (fun i => World.frozen?_alloc_new w1 (madeCells #[.int .u64 0] (n * Try.t22.size)) 22 i)
  have h1' : Hid (∀ i, i < n → ∃ v, W0.cell? ⟨w1.heap.size, i, none⟩ = some v) := by
    intro i hi
    obtain ⟨v, hv⟩ := h1.out i hi
    exact ⟨v, by rw [hW0]; exact ((Nw.refl _ _).made (Nat.le_refl _) _ _).hold hv⟩
  have h2' : Hid (∀ i, W0.frozen? ⟨w1.heap.size, i, none⟩ = false) := by
    intro i; rw [hW0]; exact (frozen?_alloc_cells _ _ _ _).trans (h2.out i)
  have hz : w.heap.size < w1.heap.size := by have := hb1.b.size; simp at this; omega
  have h3 : Nw w.heap.size w W0 := by
    rw [hW0]; exact ((Nw.next (Nat.le_refl _) ((Nw.refl _ _).made (Nat.le_refl _) _ _) hb1).made (Nat.le_refl _) _ _).made (Nat.le_refl _) _ _
  have hsz : W0.heap.size = w1.heap.size + 2 := by rw [hW0]; simp
  rw [← hW0]
  obtain ⟨B, hB⟩ : ∃ B, B = w1.heap.size := ⟨_, rfl⟩
  rw [← hB] at hz c1 h1' h2' hsz ⊢
  clear hmk h1 h2 hB hW0 hb1
  have hBz := Lib.hid hsz
  clear hsz
  go_loopw [6, 22] (fun pv iv wr => ∃ k : Nat, pv = .int .u64 (pp p f k) ∧ iv = .int .i64 k ∧ k ≤ n ∧ wr.cell? ⟨w.heap.size, 0, none⟩ = some (.int .u64 p) ∧ wr.cell? ⟨B + 1, 0, none⟩ = some (.slice (some ⟨B, 0, none⟩) n n) ∧
      Hid (∀ i, i < k → wr.cell? ⟨B, i, none⟩ = some (.int .u64 (pp p f i))) ∧ Hid (∀ i, i < n → ∃ v, wr.cell? ⟨B, i, none⟩ = some v) ∧ Hid (∀ i, wr.frozen? ⟨B, i, none⟩ = false) ∧ Nw w.heap.size w wr ∧ B + 2 ≤ wr.heap.size) (fun _ iv _ => n - (intOf iv).toNat)
  case atStart => exact ⟨0, rfl, rfl, Nat.zero_le _, c0, c1, fun i hi => absurd hi (Nat.not_lt_zero _), h1', h2', h3, by rw [hBz.out]; exact Nat.le_refl _⟩
  case round =>
    obtain ⟨k, rfl, rfl, hk, hcr, hcv, H1, H2, H3, hnr, hsz⟩ := hrel
    clear c0 c1 h1' h2' h3 hBz
    have pk0 := (pp_lo hpl f k).1
    have pk1 := (pp_lo hpl f k).2
    by_cases hlt : k < n
    · obtain ⟨b, o, c, he, hc⟩ := (HR.out.hold hnr).cells k hlt
      obtain ⟨g0, g1⟩ := HR.out.range k
      have ra := red_lo (n := f k) hpl
      have ra' := red_hi (n := f k) hpl
      cases he
      obtain ⟨u, hu⟩ := H2.out k hlt
      have hf := H3.out k
      have i0 : (0 : Int) ≤ (k : Int) := by omega
      have i1 : (k : Int) < (n : Int) := by omega
      have hcs : (wr.setCell ⟨B, k, none⟩ (.int .u64 (pp p f k))).cell? ⟨w.heap.size, 0, none⟩ = some (.int .u64 p) := (World.cell?_setCell_other _ _ _ _ (ne_block (by omega))).trans hcr
      have hcs2 : (wr.setCell ⟨B, k, none⟩ (.int .u64 (pp p f k))).cell? ⟨B + 1, 0, none⟩ = some (.slice (some ⟨B, 0, none⟩) n n) := (World.cell?_setCell_other _ _ _ _ (ne_block (by omega))).trans hcv
      have next : ∀ (w5 : World), Nw w.heap.size w w5 → B + 2 ≤ w5.heap.size → (∀ a x, (wr.setCell ⟨B, k, none⟩ (.int .u64 (pp p f k))).cell? a = some x → w5.cell? a = some x) → (∀ a, w5.frozen? a = wr.frozen? a) →
          w5.cell? ⟨w.heap.size, 0, none⟩ = some (.int .u64 p) ∧ w5.cell? ⟨B + 1, 0, none⟩ = some (.slice (some ⟨B, 0, none⟩) n n) ∧
          Hid (∀ i, i < k + 1 → w5.cell? ⟨B, i, none⟩ = some (.int .u64 (pp p f i))) ∧ Hid (∀ i, i < n → ∃ v, w5.cell? ⟨B, i, none⟩ = some v) ∧ Hid (∀ i, w5.frozen? ⟨B, i, none⟩ = false) ∧ Nw w.heap.size w w5 ∧ B + 2 ≤ w5.heap.size := by
        intro w5 hn5 hs5 hk5 hf5
        refine ⟨hk5 _ _ hcs, hk5 _ _ hcs2, ?_, ?_, ?_, hn5, hs5⟩
        · intro i hi
          by_cases hik : i = k
          · subst hik; exact hk5 _ _ (World.cell?_setCell_same _ _ _ hu)
          · exact hk5 _ _ ((World.cell?_setCell_other _ _ _ _ (ne_off (fun h => hik h.symm))).trans (H1.out i (by omega)))
        · intro i hi
          by_cases hik : i = k
          · subst hik; exact ⟨_, hk5 _ _ (World.cell?_setCell_same _ _ _ hu)⟩
          · obtain ⟨x, hx⟩ := H2.out i hi
            exact ⟨x, hk5 _ _ ((World.cell?_setCell_other _ _ _ _ (ne_off (fun h => hik h.symm))).trans hx)⟩
        · intro i; rw [hf5]; exact H3.out i
      have NX := Lib.hid next
      have hns : Nw w.heap.size w (wr.setCell ⟨B, k, none⟩ (.int .u64 (pp p f k))) := hnr.stored (Nat.le_of_lt hz) _
      have hss : B + 2 ≤ (wr.setCell ⟨B, k, none⟩ (.int .u64 (pp p f k))).heap.size := by simpa [World.setCell] using hsz
      have hfs : ∀ a, (wr.setCell ⟨B, k, none⟩ (.int .u64 (pp p f k))).frozen? a = wr.frozen? a := fun a => World.frozen?_setCell _ _ _ _
      have HFS := Lib.hid hfs
      clear next hfs
      by_cases hzr : f k % p = 0
      · have e1 : pp p f (k + 1) = pp p f k := by rw [pp, if_pos hzr]
        have E1 := Lib.hid e1
        clear e1
        go_wp2_with (go_at_call 47; refine (reduce_small _ _ (by omega) (by omega) (by omega) (by omega) _).mono ?_; rintro e w3 ⟨rfl, hb3⟩; have hc3 := hb3.hold hcs)
        exact ⟨⟨k + 1, by rw [E1.out], rfl, by omega, NX.out w3 (Nw.next (Nat.le_refl _) hns hb3) (Nat.le_trans hss hb3.b.size) (fun a x h => hb3.hold h) (fun a => (hb3.f a).trans (HFS.out a))⟩, by simp [intOf]; omega⟩
      · have hzb : (f k % p != 0) = true := by rw [bne_iff_ne]; exact hzr
        have e1 : pp p f (k + 1) = pp p f k * (f k % p) % p := by rw [pp, if_neg hzr]
        have E1 := Lib.hid e1
        clear e1 hzr
        go_wp2_with (first
          | (go_at_call 47; refine (reduce_small _ _ (by omega) (by omega) (by omega) (by omega) _).mono ?_; rintro e w3 ⟨rfl, hb3⟩; have hc3 := hb3.hold hcs)
          | (go_at_call 49; refine (mul_small _ _ _ HK.out (by omega) (by omega) (by omega) (by omega) _).mono ?_; rintro e w4 ⟨rfl, hb4⟩))
        exact ⟨⟨k + 1, by rw [E1.out], rfl, by omega, NX.out w4 (Nw.next (Nat.le_refl _) (Nw.next (Nat.le_refl _) hns hb3) hb4) (Nat.le_trans (Nat.le_trans hss hb3.b.size) hb4.b.size) (fun a x h => hb4.hold (hb3.hold h)) (fun a => ((hb4.f a).trans (hb3.f a)).trans (HFS.out a))⟩, by simp [intOf]; omega⟩
    · obtain rfl : n = k := by omega
      have hvv : ∃ a m c, Value.slice a0 n c0 = .slice a m c := ⟨_, _, _, rfl⟩
      have HV := Lib.hid hvv
      clear hvv
      go_wp2_with (first
        | (go_at_call 24; refine (fInv_any _ _ (by omega) (by omega) (by omega) (by omega) _).mono ?_; rintro e w4 ⟨rfl, hb4⟩)
        | (go_at_call 54; refine (back_any _ HV.out _).mono ?_; rintro e w5 ⟨rfl, rfl⟩))
      obtain ⟨BC, hBC⟩ : ∃ BC, BC = w4.heap.size := ⟨_, rfl⟩
      have hBC2 : B + 2 ≤ BC := by have := hb4.b.size; omega
      have z0 : ((w4.alloc (.cells #[.int .u64 (iv p (pp p f n))] 22)).alloc (.cells #[.slice a0 n c0] 33)).cell? ⟨w.heap.size, 0, none⟩ = some (.int .u64 p) := (((Nw.refl _ _).made (Nat.le_refl _) _ _).made (Nat.le_refl _) _ _).hold (hb4.hold hcr)
      have z1 : ((w4.alloc (.cells #[.int .u64 (iv p (pp p f n))] 22)).alloc (.cells #[.slice a0 n c0] 33)).cell? ⟨B + 1, 0, none⟩ = some (.slice (some ⟨B, 0, none⟩) n n) := (((Nw.refl _ _).made (Nat.le_refl _) _ _).made (Nat.le_refl _) _ _).hold (hb4.hold hcv)
      have z2 : ((w4.alloc (.cells #[.int .u64 (iv p (pp p f n))] 22)).alloc (.cells #[.slice a0 n c0] 33)).cell? ⟨BC, 0, none⟩ = some (.int .u64 (iv p (pp p f n))) := by rw [hBC]; go_simp
      have z3 : ((w4.alloc (.cells #[.int .u64 (iv p (pp p f n))] 22)).alloc (.cells #[.slice a0 n c0] 33)).frozen? ⟨BC, 0, none⟩ = false := by rw [hBC]; go_simp
      have z4 : ((w4.alloc (.cells #[.int .u64 (iv p (pp p f n))] 22)).alloc (.cells #[.slice a0 n c0] 33)).cell? ⟨w4.heap.size + 1, 0, none⟩ = some (.slice a0 n c0) := by go_simp
      have z5 : ∀ i, i < n → ((w4.alloc (.cells #[.int .u64 (iv p (pp p f n))] 22)).alloc (.cells #[.slice a0 n c0] 33)).cell? ⟨B, i, none⟩ = some (.int .u64 (pp p f i)) := fun i hi => (((Nw.refl _ _).made (Nat.le_refl _) _ _).made (Nat.le_refl _) _ _).hold (hb4.hold (H1.out i hi))
      have z6 : ∀ i, ((w4.alloc (.cells #[.int .u64 (iv p (pp p f n))] 22)).alloc (.cells #[.slice a0 n c0] 33)).frozen? ⟨B, i, none⟩ = false := fun i => ((((Nw.refl _ _).made (Nat.le_refl _) _ _).made (Nat.le_refl _) _ _ : Nw w4.heap.size w4 _).f _).trans ((hb4.f _).trans (H3.out i))
      have z7 : Nw w.heap.size w ((w4.alloc (.cells #[.int .u64 (iv p (pp p f n))] 22)).alloc (.cells #[.slice a0 n c0] 33)) := ((Nw.next (Nat.le_refl _) hnr hb4).made (Nat.le_refl _) _ _).made (Nat.le_refl _) _ _
      have z8 : BC + 2 ≤ ((w4.alloc (.cells #[.int .u64 (iv p (pp p f n))] 22)).alloc (.cells #[.slice a0 n c0] 33)).heap.size := by simp; omega
      rw [← hBC] at z4 ⊢
      generalize (w4.alloc (.cells #[.int .u64 (iv p (pp p f n))] 22)).alloc (.cells #[.slice a0 n c0] 33) = W5 at *
      clear hb4 hBC H1 H2 H3 hcr hcv hnr hsz
      have C5 := Lib.hid z5
      have C6 := Lib.hid z6
      clear z5 z6
      refine (wpIn_wide (n := 3)).1 ?_
      refine wpIn_rangeFunc_ownG (F := Fence.wide) (n := 3) rfl (by omega) (gf := 57) (lb := #[.pointer (some ⟨BC + 1, 0, none⟩)]) rfl trivial (enters_of Try.func57 (by kernel_rfl) rfl)
        (back_stops Fence.wide (3 - 1) trivial rfl (by omega) (BC + 1) w.heap.size _ n f _ HL.out z4 (HR.out.hold z7)) (fun h k => KeepsCells.trans h k) (fun W l o o' _ h1 h2 _ => fun a v _ hv => cell_kept hv (grownBy_putObj' W l o') (fun r e => by cases e; exact ⟨o, h1, h2⟩)) (Below.refl _ _) (fun _ => rfl)
        (BackI p f n w.heap.size B BC w) (fun _ _ _ => False) (backI_own p f n B BC w _ z7.b.size) (fun _ _ _ _ _ hs _ _ => hs) ⟨⟨z0, z1, z2, z3, C5.out, fun i _ => C6.out i⟩, z7.b⟩ ?a1 ?assign ?body ?done ?stop
      case assign =>
        intro l x W K hK
        gi_wp2
        exact hK
      case body =>
        rintro l pre x W hI hlen
        obtain ⟨⟨d0, d1, d2, d3, d4, d5⟩, dB⟩ := id hI
        have HI := Lib.hid hI
        have hWs := dB.size
        clear hI dB
        have D4 := Lib.hid d4
        have D5 := Lib.hid d5
        have hg := d4 x.val x.isLt
        have hgf := d5 x.val x.isLt
        clear d4 d5
        obtain ⟨r1, r2, r3⟩ := backSt_range HK.out f n pre
        obtain ⟨r4, r5⟩ := r1 x.val
        clear r1
        have i0 : (0 : Int) ≤ (x.val : Int) := by omega
        have i1 : (x.val : Int) < (n : Int) := by have := x.isLt; omega
        have l1 : 1 ≤ 3 - 1 - 1 := by omega
        obtain ⟨g0, g1⟩ := HR.out.range x.val
        have ra := red_lo (n := f x.val) hpl
        have ra' := red_hi (n := f x.val) hpl
        by_cases hzr : f x.val % p = 0
        · gi_wp2_with (refine ⟨trivial, ?_⟩; gi_at_call 47; refine (CallsIn.inRound l (callsIn_wide.2 (reduce_small _ _ (by omega) (by omega) (by omega) (by omega) _))).mono ?_; rintro e w3 ⟨rfl, hb3⟩; have e1 := hb3.hold d1; have e2 := hb3.hold hg; have e3 := (hb3.f _).trans hgf)
          refine back_close _ hz hBC2 HI.out ((Pres.of_nw hb3 hWs).trans (Pres.set (.inl rfl) (Nat.le_of_lt hz) _)) (World.cell?_setCell_same _ _ _ e2) ((World.cell?_setCell_other _ _ _ _ (ne_block (by omega))).trans (hb3.hold d2)) (fun j => ?_) ?_
          · rw [backStep, if_pos hzr]
          · rw [backStep, if_pos hzr]
        · have hzb : (f x.val % p == 0) = false := by simpa using hzr
          gi_wp2_with (first
            | (refine ⟨trivial, ?_⟩; gi_at_call 47; refine (CallsIn.inRound l (callsIn_wide.2 (reduce_small _ _ (by omega) (by omega) (by omega) (by omega) _))).mono ?_; rintro e w3 ⟨rfl, hb3⟩; have e0 := hb3.hold d0; have e1 := hb3.hold d1; have e2 := hb3.hold hg; have e3 := (hb3.f _).trans hgf; have e4 := hb3.hold d2; have e5 := (hb3.f _).trans d3))
          refine regionIn_held (S := fun w' => w'.cell? ⟨w.heap.size, 0, none⟩ = some (.int .u64 p) ∧ w'.cell? ⟨B + 1, 0, none⟩ = some (.slice (some ⟨B, 0, none⟩) n n) ∧ w'.cell? ⟨BC, 0, none⟩ = some (.int .u64 (backSt p f n pre).2)) (by kernel_rfl) (by kernel_rfl) ?_ ?_
          · rintro ⟨a, w, h⟩
            exact h
          have hS0 : (fun w' : World => w'.cell? ⟨w.heap.size, 0, none⟩ = some (.int .u64 p) ∧ w'.cell? ⟨B + 1, 0, none⟩ = some (.slice (some ⟨B, 0, none⟩) n n) ∧ w'.cell? ⟨BC, 0, none⟩ = some (.int .u64 (backSt p f n pre).2)) w3.drew := ⟨e0, e1, e4⟩
          refine wpAnyH_take (i := 0) (v := ?v0) rfl (by kernel_rfl) (by kernel_rfl) (by kernel_rfl) (fun _ _ _ h => h) (Or.inl ⟨by rfl, ?h0⟩) (by assumption) ?r0
          case h0 => intro w9 hSw; obtain ⟨s0, s1, s2⟩ := hSw; go_simp; try with_reducible rfl
          try simp only [Act.put, List.setIfInBounds_toArray]
          refine wpAnyH_take (i := 1) (v := ?v1) rfl (by kernel_rfl) (by kernel_rfl) (by kernel_rfl) (fun _ _ _ h => h) (Or.inl ⟨by rfl, ?h1⟩) (by assumption) ?r1
          case h1 => intro w9 hSw; obtain ⟨s0, s1, s2⟩ := hSw; go_simp; try with_reducible rfl
          try simp only [Act.put]
          refine wpAnyH_take (i := 2) (v := ?v2) rfl (by kernel_rfl) (by kernel_rfl) (by kernel_rfl) (fun _ _ _ h => h) (Or.inl ⟨by rfl, ?h2⟩) (by assumption) ?r2
          case h2 => intro w9 hSw; obtain ⟨s0, s1, s2⟩ := hSw; go_simp; try with_reducible rfl
          try simp only [Act.put]
          refine wpAnyH_take (i := 3) (v := ?v3) rfl (by kernel_rfl) (by kernel_rfl) (by kernel_rfl) (fun _ _ _ h => h) (Or.inl ⟨by rfl, ?h3⟩) (by assumption) ?r3
          case h3 => intro w9 hSw; obtain ⟨s0, s1, s2⟩ := hSw; go_simp; try with_reducible rfl
          try simp only [Act.put]
          refine wpAnyH_take (i := 4) (v := ?v4) rfl (by kernel_rfl) (by kernel_rfl) (by kernel_rfl) (fun _ _ _ h => h) (Or.inl ⟨by rfl, ?h4⟩) (by assumption) ?r4
          case h4 => intro w9 hSw; obtain ⟨s0, s1, s2⟩ := hSw; go_simp; try with_reducible rfl
          try simp only [Act.put]
          refine wpAnyH_take (i := 5) (v := ?v5) rfl (by kernel_rfl) (by kernel_rfl) (by kernel_rfl) (fun _ _ _ h => h) (Or.inl ⟨by rfl, ?h5⟩) (by assumption) ?r5
          case h5 => intro w9 hSw; obtain ⟨s0, s1, s2⟩ := hSw; go_simp; try with_reducible rfl
          try simp only [Act.put]
          refine wpAnyH_take (i := 7) (v := ?v7) rfl (by kernel_rfl) (by kernel_rfl) (by kernel_rfl) (fun _ _ _ h => h) (Or.inl ⟨by rfl, ?h7⟩) (by assumption) ?r7
          case h7 => intro w9 hSw; obtain ⟨s0, s1, s2⟩ := hSw; go_simp; try with_reducible rfl
          try simp only [Act.put]
          refine wpAnyH_ready (rs := [6]) (by kernel_rfl) (by simp) ?_
          refine AllReadyH.cons rfl (fun K hK => ?_) AllReadyH.nil
          go_simp
          refine hK.out _ _ hS0 (fun _ => ?_)
          clear hK K
          try simp only [Act.put]
          refine wpAnyH_ready (rs := [8]) (by kernel_rfl) (by simp) ?_
          refine AllReadyH.cons rfl (fun K hK => ?_) AllReadyH.nil
          go_simp
          refine (mul_small _ _ _ HK.out (by omega) (by omega) (by omega) (by omega) _).mono ?_
          rintro e w4 ⟨rfl, hb4⟩
          have hS4 := hb4.hold3 hS0
          refine hK.out _ _ hS4 (fun _ => ?_)
          clear hK K
          try simp only [Act.put]
          refine wpAnyH_ready (rs := [9]) (by kernel_rfl) (by simp) ?_
          refine AllReadyH.cons rfl (fun K hK => ?_) AllReadyH.nil
          go_simp
          refine hK.out _ _ hS4 (fun _ => ?_)
          clear hK K
          try simp only [Act.put]
          have q2 := hb4.hold (show w3.drew.cell? ⟨B, x.val, none⟩ = _ from e2)
          have q3 : w4.frozen? ⟨B, x.val, none⟩ = false := (hb4.f _).trans e3
          refine wpAnyH_ready (rs := [10]) (by kernel_rfl) (by simp) ?_
          refine AllReadyH.cons rfl (fun K hK => ?_) AllReadyH.nil
          go_simp
          have hS5 : (w4.setCell ⟨B, x.val, none⟩ (.int .u64 ((backSt p f n pre).1 x.val * (backSt p f n pre).2 % p))).cell? ⟨w.heap.size, 0, none⟩ = some (.int .u64 p) ∧
              (w4.setCell ⟨B, x.val, none⟩ (.int .u64 ((backSt p f n pre).1 x.val * (backSt p f n pre).2 % p))).cell? ⟨B + 1, 0, none⟩ = some (.slice (some ⟨B, 0, none⟩) n n) ∧
              (w4.setCell ⟨B, x.val, none⟩ (.int .u64 ((backSt p f n pre).1 x.val * (backSt p f n pre).2 % p))).cell? ⟨BC, 0, none⟩ = some (.int .u64 (backSt p f n pre).2) :=
            ⟨(World.cell?_setCell_other _ _ _ _ (ne_block (by omega))).trans hS4.1, (World.cell?_setCell_other _ _ _ _ (ne_block (by omega))).trans hS4.2.1, (World.cell?_setCell_other _ _ _ _ (ne_block (by omega))).trans hS4.2.2⟩
          refine hK.out _ _ hS5 (fun _ => ?_)
          clear hK K
          refine wpAnyH_done (by kernel_rfl) ?_ _
          obtain ⟨t0, t1, t2⟩ := hS5
          have t3 : (w4.setCell ⟨B, x.val, none⟩ (.int .u64 ((backSt p f n pre).1 x.val * (backSt p f n pre).2 % p))).frozen? ⟨BC, 0, none⟩ = false := (World.frozen?_setCell _ _ _ _).trans ((hb4.f _).trans e5)
          obtain ⟨W6, hW6⟩ : ∃ W6, W6 = w4.setCell ⟨B, x.val, none⟩ (.int .u64 ((backSt p f n pre).1 x.val * (backSt p f n pre).2 % p)) := ⟨_, rfl⟩
          have HW6 := Lib.hid hW6
          rw [← hW6] at t0 t1 t2 t3 ⊢
          clear hW6 hS0 hS4
          simp only [Exit.then]
          gi_wp2_with (first
            | (refine ⟨trivial, ?_⟩; gi_at_call 49; refine (CallsIn.inRound l (callsIn_wide.2 (mul_small _ _ _ HK.out (by omega) (by omega) (by omega) (by omega) _))).mono ?_; rintro e w7 ⟨rfl, hb7⟩; have y2 := hb7.hold t2; have y3 := (hb7.f _).trans t3))
          have hW6 := HW6.out
          have p1 : Pres (fun a => a = ⟨B, x.val, none⟩ ∨ a = ⟨BC, 0, none⟩) w.heap.size W W6 := by
            rw [hW6]
            exact ((Pres.of_nw hb3 hWs).drew.trans (Pres.of_nw hb4 (Nat.le_trans hWs hb3.b.size))).trans (Pres.set (.inl rfl) (Nat.le_of_lt hz) _)
          have p2 : Pres (fun a => a = ⟨B, x.val, none⟩ ∨ a = ⟨BC, 0, none⟩) w.heap.size W6 w7 := Pres.of_nw hb7 (Nat.le_trans hWs p1.size)
          have u1 : W6.cell? ⟨B, x.val, none⟩ = some (.int .u64 ((backSt p f n pre).1 x.val * (backSt p f n pre).2 % p)) := by rw [hW6]; exact World.cell?_setCell_same _ _ _ q2
          refine back_close _ hz hBC2 HI.out ((p1.trans p2).trans (Pres.set (.inr rfl) (by show w.heap.size ≤ BC; omega) _)) ((World.cell?_setCell_other _ _ _ _ (ne_block (by omega))).trans (hb7.hold u1)) (World.cell?_setCell_same _ _ _ y2) (fun j => ?_) ?_
          · rw [backStep, if_neg hzr]
          · rw [backStep, if_neg hzr]
      case done =>
        rintro D ys W hD rfl hI hK
        obtain ⟨⟨d0, d1, d2, d3, d4, d5⟩, dB⟩ := id hI
        clear d4 d5
        have HI := Lib.hid hI
        clear hI
        go_wp2
        refine ⟨by simp, .inl ⟨_, _, rfl, run_takeDeferred hK, ?_⟩⟩
        have hwD : w.heap.size ≤ D := Nat.le_trans z7.b.size hD
        exact ⟨_, results_tmp rfl _ _ _, B, n, rfl, fun i hi => ⟨_, cell_kept (HI.out.1.2.2.2.2.1 i hi) (grownBy_putObj' _ D _) (fun r e => by cases e; exact ⟨_, hK, rfl⟩), backSt_all HK.out f n i hi⟩, dB.trans (belowK_b (w := w) (Nat.le_refl _) W D _ _ hwD hK rfl rfl)⟩
      case stop =>
        rintro D c pre W _ _ h _
        exact h.elim
end Go.Proofs.Ytdgnlagoagpejaa
