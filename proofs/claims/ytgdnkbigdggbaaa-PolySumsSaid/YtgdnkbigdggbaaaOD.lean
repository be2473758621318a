/- The walks of package poly's Degree and Eval: loops over slices.Backward. -/
import Derived.Test.YtgdnkbigdggbaaaBack
import Derived.Test.YtgdnkbigdggbaaaOwnW
import Derived.Test.YtgdnkbigdggbaaaBwAt
import Derived.Test.YtgdnkbigdggbaaaRound
import Derived.Outline
namespace Go.Proofs.Ytgdnkbigdggbaaa
open Go.RowKit Go.Shelf
attribute [local go_sem] Oper.semAt_some

/-- What speaks of cells, and of what lay below, stays when the loop's own records turn. -/
theorem ownFrom_of {B n₀ : Nat} {w₀ : World} {C : Nat → World → Prop} (hn : n₀ ≤ w₀.heap.size) (hB : n₀ ≤ B)
    (hC : ∀ k W W', C k W → (∀ a v, W.cell? a = some v → W'.cell? a = some v ∧ W'.frozen? a = W.frozen? a) → C k W') : OwnFrom B (fun k W => C k W ∧ Below n₀ w₀ W) :=
  OwnFrom.and (Own.from (fun k W W' _ hs hg hr => hC k W W' hs fun _ _ hv => ⟨cell_kept hv hg hr, frozen_kept hv hg hr⟩) _) (ownFrom_below hn hB)
theorem Lst.here {W : World} {v : Value} {l : List Int} (h : Lst W v l) {i b o c : Nat} {u : Int} (hi : i < l.length) (he : v = .slice (some ⟨b, o, none⟩) l.length c) (hc : W.cell? ⟨b, o + i, none⟩ = some (.int .u64 u)) : u = l[i] := by
  obtain ⟨b', o', c', e', h'⟩ := h.cells i hi
  rw [he] at e'
  obtain ⟨rfl, rfl⟩ : b = b' ∧ o = o' := by simp at e'; exact ⟨e'.1.1, e'.1.2⟩
  rw [hc] at h'
  simpa using h'
theorem Lst.seen {W : World} {v : Value} {l : List Int} (h : Lst W v l) {Bs : Nat} (hb : W.cell? ⟨Bs, 0, none⟩ = some v) : Seen Bs v l.length W :=
  ⟨hb, fun i hi => by obtain ⟨b, o, c, e, hc⟩ := h.cells i hi; exact ⟨b, o, c, _, e, hc⟩⟩
theorem keeps_below {B : Nat} {W W' : World} (h : Below W.heap.size W W') : KeepsFrom B W W' := KeepsFrom.of_grownBy (grown_of_below h) (fun j e => by cases e)
theorem keeps_set (B : Nat) (W : World) (a : Addr) (v : Value) : KeepsFrom B W (W.setCell a v) := (KeepsOthers.setCell W a v).from B

/-- All zero from k on. -/
theorem cut0_upper : ∀ (l : List Int) (k : Nat), (∀ i (h : i < l.length), k ≤ i → l[i] = 0) → k ≤ l.length → cut0 l = cut0 (l.take k) := by
  intro l
  refine snoc_induct (P := fun l => ∀ k, (∀ i (h : i < l.length), k ≤ i → l[i] = 0) → k ≤ l.length → cut0 l = cut0 (l.take k)) ?_ ?_ l
  · intro k _ _; simp
  · intro m x ih k h hk
    rcases Nat.lt_or_ge m.length k with h1 | h1
    · rw [List.take_of_length_le (by simp; omega)]
    · have hx : x = 0 := by have := h m.length (by simp) h1; simpa using this
      subst hx
      rw [cut0_snoc_zero, ih k (fun i hi hki => by have := h i (by simp; omega) hki; rwa [List.getElem_append_left hi] at this) h1, List.take_append_of_le_length h1]
theorem cut0_top {l : List Int} {k : Nat} (hk : k < l.length) (h0 : l[k] ≠ 0) (h : ∀ i (h : i < l.length), k + 1 ≤ i → l[i] = 0) : (cut0 l).length = k + 1 := by
  rw [cut0_upper l (k + 1) h (by omega), take_snoc hk, cut0_snoc _ h0]
  simp; omega

/-- Between two rounds of Degree. -/
def DegI (p : Int) (l : List Int) (v : Value) (B0 : Nat) (k : Nat) (W : World) : Prop :=
  W.cell? ⟨B0, 0, none⟩ = some (.int .u64 p) ∧ W.cell? ⟨B0 + 1, 0, none⟩ = some (.int .i64 0) ∧ W.frozen? ⟨B0 + 1, 0, none⟩ = false ∧ W.cell? ⟨B0 + 1 + 1, 0, none⟩ = some v ∧
    ∀ i (h : i < l.length), l.length - k ≤ i → rd p l[i] = 0
/-- Where Degree returns in a round. -/
def DegX (p : Int) (l : List Int) (B0 : Nat) (k : Nat) (W : World) : Prop :=
  W.cell? ⟨B0 + 1, 0, none⟩ = some (.int .i64 ((l.length - 1 - k : Nat) : Int)) ∧ (∀ i (h : i < l.length), l.length - k ≤ i → rd p l[i] = 0) ∧ ∀ (h : l.length - 1 - k < l.length), rd p l[l.length - 1 - k] ≠ 0

set_option maxRecDepth 100000 in
set_option maxHeartbeats 4000000 in
theorem oDegree_any (p : Int) (v : Value) (l : List Int) (w : World) (hl : Lst w v l) (hn : l.length ≤ 1000) :
    Calls Try.prog 17 #[.agg #[.int .u64 p], v] w fun e w' => e = .returned (.int .i64 ((cut0 (l.map (rd p))).length - 1)) ∧ Below w.heap.size w w' := by
  obtain ⟨a0, c0, rfl⟩ := hl.shape
  have HL := Lib.hid hl
  have HV := Lib.hid (show ∃ a m c, Value.slice a0 l.length c0 = .slice a m c from ⟨_, _, _, rfl⟩)
  clear hl
  refine (callsIn_wide (n := 3)).1 ?_
  refine callsIn_of_wp_marks Try.func17 rfl trivial ?_ rfl
  refine wpIn_wide.2 ?_
  simp only [Try.ntmps17, List.size_toArray, List.length_cons, List.length_nil, Nat.reduceAdd, Nat.reduceSub, Array.replicate_succ, Array.replicate_zero, List.push_toArray, List.append_toArray, List.nil_append, List.cons_append]
  go_wp2_with (go_at_call 46; refine (back_any _ HV.out _).mono ?_; rintro e w5 ⟨rfl, rfl⟩)
  refine name_world ?_
  intro W hW
  have hb : Below w.heap.size w W := by rw [hW]; exact Below.made (by simp) (Below.made (by simp) (Below.made (Nat.le_refl _) (Below.refl _ _) _) _) _
  have z0 : W.cell? ⟨w.heap.size, 0, none⟩ = some (.int .u64 p) := by rw [hW]; go_simp
  have z1 : W.cell? ⟨w.heap.size + 1, 0, none⟩ = some (.int .i64 0) := by rw [hW]; go_simp
  have z2 : W.frozen? ⟨w.heap.size + 1, 0, none⟩ = false := by rw [hW]; go_simp
  have z3 : W.cell? ⟨w.heap.size + 1 + 1, 0, none⟩ = some (.slice a0 l.length c0) := by rw [hW]; go_simp
  have hsz : W.heap.size = w.heap.size + 3 := by rw [hW]; simp
  clear hW
  refine (wpIn_wide (n := 3)).1 ?_
  refine back_loop (F := Fence.wide) (n := 3) rfl (by omega) trivial (Bs := w.heap.size + 1 + 1) (N := l.length) (v := .slice a0 l.length c0) rfl ⟨_, _, rfl⟩ hn rfl
    (fun k W => DegI p l (.slice a0 l.length c0) w.heap.size k W ∧ Below w.heap.size w W) (fun k W => DegX p l w.heap.size k W ∧ Below w.heap.size w W)
    (ownFrom_of (by omega) (by omega) fun k A A' hs hk => ⟨(hk _ _ hs.1).1, (hk _ _ hs.2.1).1, (hk _ _ hs.2.1).2.trans hs.2.2.1, (hk _ _ hs.2.2.2.1).1, hs.2.2.2.2⟩)
    (ownFrom_of (by omega) (by omega) fun k A A' hs hk => ⟨(hk _ _ hs.1).1, hs.2⟩) ⟨⟨z0, z1, z2, z3, fun i h1 h2 => by omega⟩, hb⟩
    (fun k A h => (HL.out.hold h.2).seen h.1.2.2.2.1) ?a1 ?assign ?body ?done ?stop
  case assign =>
    intro l x u W K hK
    gi_wp2
    exact hK
  case body =>
    rintro L k b o c u W1 hk ⟨⟨d0, d1, d2, d3, d4⟩, dB⟩ he hc
    obtain rfl := (HL.out.hold dB).here (by omega) he hc
    have hux := HL.out.us _ (List.getElem_mem (show l.length - 1 - k < l.length by omega))
    obtain ⟨x, hx⟩ : ∃ x, x = l[l.length - 1 - k] := ⟨_, rfl⟩
    rw [← hx] at hux hc ⊢
    have HX := Lib.hid hx
    have D4 := Lib.hid d4
    clear hx he hc d4
    by_cases h0 : rd p x = 0
    · gi_wp2_with (refine ⟨trivial, ?_⟩; gi_at_call 47; refine (CallsIn.inRound L (callsIn_wide.2 (fReduce_u _ _ _))).mono ?_; rintro e w3 ⟨rfl, hb3⟩)
      refine ⟨keeps_below hb3.b, ⟨hb3.hold d0, hb3.hold d1, (hb3.f _).trans d2, hb3.hold d3, fun i hi hki => ?_⟩, Below.next (Nat.le_refl _) dB hb3.b |>.mono (Nat.le_refl _)⟩
      rcases Nat.lt_or_ge i (l.length - k) with h1 | h1
      · obtain rfl : i = l.length - 1 - k := by omega
        rw [← HX.out]; exact h0
      · exact D4.out i hi h1
    · gi_wp2_with (refine ⟨trivial, ?_⟩; gi_at_call 47; refine (CallsIn.inRound L (callsIn_wide.2 (fReduce_u _ _ _))).mono ?_; rintro e w3 ⟨rfl, hb3⟩; have e1 := hb3.hold d1; have e2 := (hb3.f _).trans d2)
      refine ⟨(keeps_below hb3.b).trans (keeps_set _ _ _ _), ⟨World.cell?_setCell_same _ _ _ e1, D4.out, fun h => ?_⟩, (Below.next (Nat.le_refl _) dB hb3.b).setCell (by show w.heap.size ≤ w.heap.size + 1; omega) _⟩
      rw [← HX.out]; exact h0
  case done =>
    rintro D W1 hD ⟨⟨d0, d1, d2, d3, d4⟩, dB⟩ hK
    have D4 := Lib.hid d4
    clear d4
    go_wp2
    have hK2 : (W1.setCell ⟨w.heap.size + 1, 0, none⟩ (.int .i64 (-1))).heap[D]? = some (.deferred (some [])) := (keeps_set w.heap.size W1 _ _).same D _ (by omega) hK rfl
    have hc2 := cell_kept (World.cell?_setCell_same W1 ⟨w.heap.size + 1, 0, none⟩ (.int .i64 (-1)) d1) (grownBy_putObj' _ D (.deferred none)) (fun r e => by cases e; exact ⟨_, hK2, rfl⟩)
    refine ⟨by simp, .inl ⟨_, _, rfl, run_takeDeferred hK2, ?_⟩⟩
    refine ⟨_, by simp [results, Try.results17, go_sem, hc2] <;> rfl, ?_, ?_⟩
    · have h0 : (l.map (rd p)).length - l.length = 0 := by simp
      rw [cut0_upper (l.map (rd p)) 0 (fun i hi _ => by rw [List.getElem_map]; exact D4.out i (by simpa using hi) (by omega)) (Nat.zero_le _)]
      rfl
    · exact ((dB.setCell (by show w.heap.size ≤ w.heap.size + 1; omega) _).trans (belowK_b (w := w) (Nat.le_refl _) _ D _ _ (by omega) hK2 rfl rfl))
  case stop =>
    rintro D k W1 hD hk ⟨⟨d0, d1, d2⟩, dB⟩ hK
    have D1 := Lib.hid (And.intro d1 d2)
    clear d1 d2
    gi_wp2
    have hc2 := cell_kept d0 (grownBy_putObj' _ D (.deferred none)) (fun r e => by cases e; exact ⟨_, hK, rfl⟩)
    refine ⟨by simp, .inl ⟨_, _, rfl, run_takeDeferred hK, ?_⟩⟩
    refine ⟨_, by simp [results, Try.results17, go_sem, hc2] <;> rfl, ?_, ?_⟩
    · have h1 := cut0_top (l := l.map (rd p)) (k := l.length - 1 - k) (by simp; omega) (by rw [List.getElem_map]; exact D1.out.2 (by omega)) (fun i hi hki => by rw [List.getElem_map]; exact D1.out.1 i (by simpa using hi) (by omega))
      rw [h1]
      congr 2
      omega
    · exact dB.trans (belowK_b (w := w) (Nat.le_refl _) _ D _ _ (by omega) hK rfl rfl)

/-! A region that draws its order and ends with a few operations in one forced order, in a round. -/
open Go.BigFrame in
theorem regionIn_tail {P : Program} {C : World → Prop} {id L m : Nat} {Q : Exit → Act → World → Prop} {a : Act} {w : World} {l : List Oper} (n : Nat) (hm : P.follows .mixedOrders = true) (hd : noDefer l.toArray = true) (hQ : ¬ LetsOut Q)
    (hB : Region.lexTailB .any l.toArray n = true) (hC : C w.drew)
    (h : wpQuiet P l.toArray C (fun a' => ∀ w', C w' → wpList P l.toArray Q (l.drop n) a' w') (l.take n) a) : (Code.region id l.toArray true).wpIn (Fence.wide.inRound L) m P Q a w := by
  simp only [Region.lexTailB, Bool.and_eq_true, decide_eq_true_eq] at hB
  obtain ⟨⟨⟨⟨hsel, hn⟩, hs⟩, hc⟩, hlex⟩ := hB
  have hn' : n < l.length := by simpa using hn
  have htl : (l.take n).length = n := by simp; omega
  have hdl : (l.drop n).length = l.toArray.size - n := by simp
  have inv0 : HeadInv .any l.toArray n (Array.replicate l.toArray.size false) :=
    ⟨by simp, fun j oj _ hl => (by rw [getD_replicate_false] at hl; cases hl), fun t _ ht => getD_in (by simpa using ht) (getD_replicate_false _ _)⟩
  have H := anyT_lex (md := .any) (g := l.toArray.size - n) hsel hs hc hn (l.take n) 0 _ a
    (fun j hj => by rw [htl] at hj; simp [hj]) (by simpa using htl) inv0 (by rw [htl]; exact hlex) h
  refine wpIn_region_any hm (anyIn_of_any hd hQ _ _ _ _ ?_)
  have H2 := anyT_any (Q := Q) (g := l.toArray.size - n) (fun listed a' w' hw' hL => by
    have h3 := wpAny_of_seq (md := .any) (Q' := Q) (l.drop n) n listed a' w' (fun j => by simp [List.getElem?_drop]) (by rw [hdl]; exact hL.1) (hL.2 w' hw')
    rwa [hdl] at h3) _ _ _ _ hC H
  rw [htl, show n + (l.toArray.size - n) = l.toArray.size by omega] at H2
  exact H2
open Go.BigFrame in
theorem wpIn_region_nwt {P : Program} {id L m : Nat} {Q : Exit → Act → World → Prop} {a : Act} {w : World} {q : NwAt w} {l : List Oper} (n : Nat) (hm : P.follows .mixedOrders = true) (hd : noDefer l.toArray = true) (hQ : ¬ LetsOut Q) (hB : Region.lexTailB .any l.toArray n = true)
    (h : wpQuiet P l.toArray (fun w' => ∃ q : NwAt w, w' = q.out) (fun a' => ∀ w', (∃ q : NwAt w, w' = q.out) → wpList P l.toArray Q (l.drop n) a' w') (l.take n) a) : (Code.region id l.toArray true).wpIn (Fence.wide.inRound L) m P Q a q.out :=
  regionIn_tail (C := fun w' => ∃ q : NwAt w, w' = q.out) n hm hd hQ hB q.drew h
theorem fromIn_here {F : Fence} {m : Nat} {P : Program} {c : Code} {Q : Exit → Act → World → Prop} {a : Act} {W : World} (h : ∀ q : NwAt W, c.wpIn F m P Q a q.out) : c.wpIn F m P Q a W := h ⟨W, Nw.refl _ _⟩

/-- The value by Horner's rule, from the last coefficient on. -/
def evh (p : Int) (l : List Int) (x : Int) : Nat → Int
  | 0 => 0
  | k + 1 => ad p (ml p (evh p l x k) x) (l.getD (l.length - 1 - k) 0)
instance evh_u {p x : Int} {l : List Int} : ∀ {k : Nat}, U (evh p l x k)
  | 0 => show U 0 from inferInstance
  | _ + 1 => show U (ad p _ _) from inferInstance
theorem evh_ph {p : Int} (hk : known p = true) (l : List Int) (x : Int) : ∀ k, k ≤ l.length → ph p (evh p l x k) = Po.ev (fun i => pf p l (l.length - k + i)) (ph p x) k := by
  intro k
  induction k with
  | zero => intro _; exact ph_zero hk
  | succ k ih =>
    intro h
    rw [evh, ph_ad hk, ph_ml hk, ih (by omega), Po.ev]
    have e : Po.tl (fun i => pf p l (l.length - (k + 1) + i)) = fun i => pf p l (l.length - k + i) := funext fun i => by
      show pf p l (l.length - (k + 1) + (i + 1)) = _
      congr 1; omega
    rw [e, show l.length - 1 - k = l.length - (k + 1) + 0 by omega]
    show _ + pf p l _ = _
    grind
theorem evh_end {p : Int} (l : List Int) (x : Int) : evh p l x l.length = ival p (Po.ev (pf p l) (ph p x) l.length) := by
  refine ival_of (fun hk => ⟨?_, ?_⟩) fun hk => ?_
  · cases l.length with
    | zero => have := known_lo hk; exact ⟨by show (0 : Int) ≤ 0; omega, by show (0 : Int) < p; omega⟩
    | succ n => exact ad_bd hk _ _
  · rw [evh_ph hk l x _ (Nat.le_refl _)]
    congr 1
    funext i
    simp
  · cases l.length with
    | zero => rfl
    | succ n => show ad p _ _ = 0; rw [ad, hk]; rfl

/-- Between two rounds of Eval. -/
def EvI (p x : Int) (l : List Int) (v : Value) (B0 : Nat) (k : Nat) (W : World) : Prop :=
  W.cell? ⟨B0, 0, none⟩ = some (.int .u64 p) ∧ W.cell? ⟨B0 + 1, 0, none⟩ = some (.int .u64 x) ∧ W.cell? ⟨B0 + 1 + 1, 0, none⟩ = some (.int .u64 (evh p l x k)) ∧ W.frozen? ⟨B0 + 1 + 1, 0, none⟩ = false ∧ W.cell? ⟨B0 + 1 + 1 + 1, 0, none⟩ = some v

set_option maxRecDepth 100000 in
set_option maxHeartbeats 4000000 in
theorem oEval_any (p x : Int) [hx : U x] (v : Value) (l : List Int) (w : World) (hl : Lst w v l) (hn : l.length ≤ 1000) :
    Calls Try.prog 27 #[.agg #[.int .u64 p], v, .int .u64 x] w fun e w' => e = .returned (.int .u64 (ival p (Po.ev (pf p l) (ph p x) l.length))) ∧ Below w.heap.size w w' := by
  obtain ⟨a0, c0, rfl⟩ := hl.shape
  have HL := Lib.hid hl
  have HV := Lib.hid (show ∃ a m c, Value.slice a0 l.length c0 = .slice a m c from ⟨_, _, _, rfl⟩)
  clear hl
  refine (callsIn_wide (n := 3)).1 ?_
  refine callsIn_of_wp_marks Try.func27 rfl trivial ?_ rfl
  refine wpIn_wide.2 ?_
  simp only [Try.ntmps27, List.size_toArray, List.length_cons, List.length_nil, Nat.reduceAdd, Nat.reduceSub, Array.replicate_succ, Array.replicate_zero, List.push_toArray, List.append_toArray, List.nil_append, List.cons_append]
  go_wp2_with (go_at_call 46; refine (back_any _ HV.out _).mono ?_; rintro e w5 ⟨rfl, rfl⟩)
  refine name_world ?_
  intro W hW
  have hb : Below w.heap.size w W := by rw [hW]; (repeat (first | exact Below.refl _ _ | refine Below.setCell ?_ (by show w.heap.size ≤ _; simp; try omega) _ | refine Below.made (by simp <;> omega) ?_ _))
  have z0 : W.cell? ⟨w.heap.size, 0, none⟩ = some (.int .u64 p) := by rw [hW]; go_simp
  have z1 : W.cell? ⟨w.heap.size + 1, 0, none⟩ = some (.int .u64 x) := by rw [hW]; go_simp
  have z2 : W.cell? ⟨w.heap.size + 1 + 1, 0, none⟩ = some (.int .u64 0) := by rw [hW]; go_simp
  have z3 : W.frozen? ⟨w.heap.size + 1 + 1, 0, none⟩ = false := by rw [hW]; go_simp
  have z4 : W.cell? ⟨w.heap.size + 1 + 1 + 1, 0, none⟩ = some (.slice a0 l.length c0) := by rw [hW]; go_simp
  have hsz : W.heap.size = w.heap.size + 4 := by rw [hW]; simp
  clear hW
  refine (wpIn_wide (n := 3)).1 ?_
  refine back_loop (F := Fence.wide) (n := 3) rfl (by omega) trivial (Bs := w.heap.size + 1 + 1 + 1) (N := l.length) (v := .slice a0 l.length c0) rfl ⟨_, _, rfl⟩ hn rfl
    (fun k W => EvI p x l (.slice a0 l.length c0) w.heap.size k W ∧ Below w.heap.size w W) (fun _ _ => False)
    (ownFrom_of (by omega) (by omega) fun k A A' hs hk => ⟨(hk _ _ hs.1).1, (hk _ _ hs.2.1).1, (hk _ _ hs.2.2.1).1, (hk _ _ hs.2.2.1).2.trans hs.2.2.2.1, (hk _ _ hs.2.2.2.2).1⟩)
    (fun _ _ _ _ hs _ _ => hs) ⟨⟨z0, z1, z2, z3, z4⟩, hb⟩
    (fun k A h => (HL.out.hold h.2).seen h.1.2.2.2.2) ?a1 ?assign ?body ?done ?stop
  case assign =>
    intro l x u W K hK
    gi_wp2
    exact hK
  case body =>
    rintro L k b o c u W1 hk ⟨⟨d0, d1, d2, d3, d4⟩, dB⟩ he hc
    obtain rfl := (HL.out.hold dB).here (by omega) he hc
    have hux := HL.out.us _ (List.getElem_mem (show l.length - 1 - k < l.length by omega))
    obtain ⟨y, hy⟩ : ∃ y, y = l[l.length - 1 - k] := ⟨_, rfl⟩
    have hey : evh p l x (k + 1) = ad p (ml p (evh p l x k) x) y := by rw [evh, getD_lt _ (by omega), hy]
    obtain ⟨z, hz⟩ : ∃ z, z = evh p l x k := ⟨_, rfl⟩
    have hzu : U z := by rw [hz]; infer_instance
    rw [← hy] at hux hc ⊢
    rw [← hz] at d2 hey
    have HX := Lib.hid (And.intro hz hey)
    clear hy he hc hz hey
    gi_wp2_with fail
    have k0 := fun q : NwAt W1 => q.nw.hold d0
    have k1 := fun q : NwAt W1 => q.nw.hold d1
    have k2 := fun q : NwAt W1 => q.nw.hold d2
    have k3 := fun q : NwAt W1 => q.nw.holdf d3
    refine fromIn_here ?_
    intro q
    refine wpIn_region_nwt 7 (by kernel_rfl) (by kernel_rfl) (by rintro ⟨a, w, h⟩; exact h) (by kernel_rfl) ?_
    simp only [List.take_succ_cons, List.take_zero, List.drop_succ_cons, List.drop_zero]
    repeat (go_big_quiet_step ((first | (go_at_call 55; exact nwAt_of (fMul_u _ _ _ _)) | (go_at_call 49; exact nwAt_of (fAdd_u _ _ _ _)))))
    refine wpQuiet_nil ?_
    clear q
    rintro _ ⟨q, rfl⟩
    have j2 := k2 q
    have j3 := k3 q
    clear k2 k3
    go_wp2
    have far : ∀ {a : Addr} {v : Value}, a.block ≠ w.heap.size + 1 + 1 → W1.cell? a = some v → (q.out.setCell ⟨w.heap.size + 1 + 1, 0, none⟩ (.int .u64 (ad p (ml p z x) y))).cell? a = some v := fun ha hv =>
      (World.cell?_setCell_far _ _ _ _ (Ne.symm ha)).trans (q.nw.hold hv)
    refine ⟨(keeps_below q.nw.b).trans (keeps_set _ _ _ _), ⟨far (by show w.heap.size ≠ _; omega) d0, far (by show w.heap.size + 1 ≠ _; omega) d1, ?_, (World.frozen?_setCell _ _ _ _).trans j3, far (by show w.heap.size + 1 + 1 + 1 ≠ _; omega) d4⟩,
      (Below.next (Nat.le_refl _) dB q.nw.b).setCell (by show w.heap.size ≤ w.heap.size + 1 + 1; omega) _⟩
    rw [HX.out.2]
    exact World.cell?_setCell_same _ _ _ j2
  case done =>
    rintro D W1 hD ⟨⟨d0, d1, d2, d3, d4⟩, dB⟩ hK
    go_wp2
    refine ⟨by simp, .inl ⟨_, _, rfl, run_takeDeferred hK, ?_⟩⟩
    exact ⟨_, results_tmp rfl _ _ _, by rw [evh_end]; rfl, dB.trans (belowK_b (w := w) (Nat.le_refl _) _ D _ _ (by omega) hK rfl rfl)⟩
  case stop =>
    rintro D k W1 _ _ h _
    exact h.elim
end Go.Proofs.Ytgdnkbigdggbaaa
