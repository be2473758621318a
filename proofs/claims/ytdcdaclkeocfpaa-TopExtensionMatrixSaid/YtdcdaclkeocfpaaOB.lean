/- The walks of package poly's Degree and Eval: loops over slices.Backward. The walks of package poly's trim and Trim, and of slices.Clone. The walks of package poly's extended, addMultiple, Add, Sub, Scale. -/
import Derived.Test.YtdcdaclkeocfpaaBack
import Derived.Test.YtdcdaclkeocfpaaOwnW
import Derived.Test.YtdcdaclkeocfpaaBwAt
import Derived.Test.YtdcdaclkeocfpaaRound
import Derived.Outline
import Derived.Lib.SliceRun
import Derived.Deep.DeepCutAuto
import Derived.Deep.RegionHeld3
import Derived.Test.YtdcdaclkeocfpaaPolyG
import Derived.Laws.CopyOwn
namespace Go.Proofs.Ytdcdaclkeocfpaa
open Go.RowKit Go.Shelf
attribute [local go_sem] Oper.semAt_some

/-- What speaks of cells, and of what lay below, stays when the loop's own records turn. -/
theorem ownFrom_of {B n₀ : Nat} {w₀ : World} {C : Nat → World → Prop} (hn : n₀ ≤ w₀.heap.size) (hB : n₀ ≤ B)
    (hC : ∀ k W W', C k W → (∀ a v, W.cell? a = some v → W'.cell? a = some v ∧ W'.frozen? a = W.frozen? a) → C k W') : OwnFrom B (fun k W => C k W ∧ Below n₀ w₀ W) :=
  OwnFrom.and (Own.from (fun k W W' _ hs hg hr => hC k W W' hs fun _ _ hv => ⟨cell_kept hv hg hr, frozen_kept hv hg hr⟩) _) (ownFrom_below hn hB)
theorem Lst.here {W : World} {v : Value} {l : List Int} (h : Lst W v l) {i b o c : Nat} {u : Int} (hi : i < l.length) (he : v = .slice (some ⟨b, o, none⟩) l.length c) (hc : W.cell? ⟨b, o + i, none⟩ = some (.int .u64 u)) : u = l[i] := by
  obtain ⟨b', o', c', e', h'⟩ := h.cells i hi
  rw [he] at e'
  obtain ⟨rfl, rfl⟩ : b = b' ∧ o = o' := by simp at e'; exact ⟨e'.1.1, e'.1.2⟩
  rw [hc] at h'
  simpa using h'
theorem Lst.seen {W : World} {v : Value} {l : List Int} (h : Lst W v l) {Bs : Nat} (hb : W.cell? ⟨Bs, 0, none⟩ = some v) : Seen Bs v l.length W :=
  ⟨hb, fun i hi => by obtain ⟨b, o, c, e, hc⟩ := h.cells i hi; exact ⟨b, o, c, _, e, hc⟩⟩
theorem keeps_below {B : Nat} {W W' : World} (h : Below W.heap.size W W') : KeepsFrom B W W' := KeepsFrom.of_grownBy (grown_of_below h) (fun j e => by cases e)
theorem keeps_set (B : Nat) (W : World) (a : Addr) (v : Value) : KeepsFrom B W (W.setCell a v) := (KeepsOthers.setCell W a v).from B

/-- All zero from k on. -/
theorem cut0_upper : ∀ (l : List Int) (k : Nat), (∀ i (h : i < l.length), k ≤ i → l[i] = 0) → k ≤ l.length → cut0 l = cut0 (l.take k) := by
  intro l
  refine snoc_induct (P := fun l => ∀ k, (∀ i (h : i < l.length), k ≤ i → l[i] = 0) → k ≤ l.length → cut0 l = cut0 (l.take k)) ?_ ?_ l
  · intro k _ _; simp
  · intro m x ih k h hk
    rcases Nat.lt_or_ge m.length k with h1 | h1
    · rw [List.take_of_length_le (by simp; omega)]
    · have hx : x = 0 := by have := h m.length (by simp) h1; simpa using this
      subst hx
      rw [cut0_snoc_zero, ih k (fun i hi hki => by have := h i (by simp; omega) hki; rwa [List.getElem_append_left hi] at this) h1, List.take_append_of_le_length h1]
theorem cut0_top {l : List Int} {k : Nat} (hk : k < l.length) (h0 : l[k] ≠ 0) (h : ∀ i (h : i < l.length), k + 1 ≤ i → l[i] = 0) : (cut0 l).length = k + 1 := by
  rw [cut0_upper l (k + 1) h (by omega), take_snoc hk, cut0_snoc _ h0]
  simp; omega

/-- Between two rounds of Degree. -/
def DegI (p : Int) (l : List Int) (v : Value) (B0 : Nat) (k : Nat) (W : World) : Prop :=
  W.cell? ⟨B0, 0, none⟩ = some (.int .u64 p) ∧ W.cell? ⟨B0 + 1, 0, none⟩ = some (.int .i64 0) ∧ W.frozen? ⟨B0 + 1, 0, none⟩ = false ∧ W.cell? ⟨B0 + 1 + 1, 0, none⟩ = some v ∧
    ∀ i (h : i < l.length), l.length - k ≤ i → rd p l[i] = 0
/-- Where Degree returns in a round. -/
def DegX (p : Int) (l : List Int) (B0 : Nat) (k : Nat) (W : World) : Prop :=
  W.cell? ⟨B0 + 1, 0, none⟩ = some (.int .i64 ((l.length - 1 - k : Nat) : Int)) ∧ (∀ i (h : i < l.length), l.length - k ≤ i → rd p l[i] = 0) ∧ ∀ (h : l.length - 1 - k < l.length), rd p l[l.length - 1 - k] ≠ 0

set_option maxRecDepth 100000 in
set_option maxHeartbeats 4000000 in
theorem oDegree_any (p : Int) (v : Value) (l : List Int) (w : World) (hl : Lst w v l) (hn : l.length ≤ 1000) :
    Calls Try.prog 116 #[.agg #[.int .u64 p], v] w fun e w' => e = .returned (.int .i64 ((cut0 (l.map (rd p))).length - 1)) ∧ Below w.heap.size w w' := by
  obtain ⟨a0, c0, rfl⟩ := hl.shape
  have HL := Lib.hid hl
  have HV := Lib.hid (show ∃ a m c, Value.slice a0 l.length c0 = .slice a m c from ⟨_, _, _, rfl⟩)
  clear hl
  refine (callsIn_wide (n := 3)).1 ?_
  refine callsIn_of_wp_marks Try.func116 rfl trivial ?_ rfl
  refine wpIn_wide.2 ?_
  simp only [Try.ntmps116, List.size_toArray, List.length_cons, List.length_nil, Nat.reduceAdd, Nat.reduceSub, Array.replicate_succ, Array.replicate_zero, List.push_toArray, List.append_toArray, List.nil_append, List.cons_append]
  go_wp2_with (go_at_call 111; refine (back_any _ HV.out _).mono ?_; rintro e w5 ⟨rfl, rfl⟩)
  refine name_world ?_
  intro W hW
  have hb : Below w.heap.size w W := by rw [hW]; exact Below.made (by simp) (Below.made (by simp) (Below.made (Nat.le_refl _) (Below.refl _ _) _) _) _
  have z0 : W.cell? ⟨w.heap.size, 0, none⟩ = some (.int .u64 p) := by rw [hW]; go_simp
  have z1 : W.cell? ⟨w.heap.size + 1, 0, none⟩ = some (.int .i64 0) := by rw [hW]; go_simp
  have z2 : W.frozen? ⟨w.heap.size + 1, 0, none⟩ = false := by rw [hW]; go_simp
  have z3 : W.cell? ⟨w.heap.size + 1 + 1, 0, none⟩ = some (.slice a0 l.length c0) := by rw [hW]; go_simp
  have hsz : W.heap.size = w.heap.size + 3 := by rw [hW]; simp
  clear hW
  refine (wpIn_wide (n := 3)).1 ?_
  refine back_loop (F := Fence.wide) (n := 3) rfl (by omega) trivial (Bs := w.heap.size + 1 + 1) (N := l.length) (v := .slice a0 l.length c0) rfl ⟨_, _, rfl⟩ hn rfl
    (fun k W => DegI p l (.slice a0 l.length c0) w.heap.size k W ∧ Below w.heap.size w W) (fun k W => DegX p l w.heap.size k W ∧ Below w.heap.size w W)
    (ownFrom_of (by omega) (by omega) fun k A A' hs hk => ⟨(hk _ _ hs.1).1, (hk _ _ hs.2.1).1, (hk _ _ hs.2.1).2.trans hs.2.2.1, (hk _ _ hs.2.2.2.1).1, hs.2.2.2.2⟩)
    (ownFrom_of (by omega) (by omega) fun k A A' hs hk => ⟨(hk _ _ hs.1).1, hs.2⟩) ⟨⟨z0, z1, z2, z3, fun i h1 h2 => by omega⟩, hb⟩
    (fun k A h => (HL.out.hold h.2).seen h.1.2.2.2.1) ?a1 ?assign ?body ?done ?stop
  case assign =>
    intro l x u W K hK
    gi_wp2
    exact hK
  case body =>
    rintro L k b o c u W1 hk ⟨⟨d0, d1, d2, d3, d4⟩, dB⟩ he hc
    obtain rfl := (HL.out.hold dB).here (by omega) he hc
    have hux := HL.out.us _ (List.getElem_mem (show l.length - 1 - k < l.length by omega))
    obtain ⟨x, hx⟩ : ∃ x, x = l[l.length - 1 - k] := ⟨_, rfl⟩
    rw [← hx] at hux hc ⊢
    have HX := Lib.hid hx
    have D4 := Lib.hid d4
    clear hx he hc d4
    by_cases h0 : rd p x = 0
    · gi_wp2_with (refine ⟨trivial, ?_⟩; gi_at_call 56; refine (CallsIn.inRound L (callsIn_wide.2 (fReduce_u _ _ _))).mono ?_; rintro e w3 ⟨rfl, hb3⟩)
      refine ⟨keeps_below hb3.b, ⟨hb3.hold d0, hb3.hold d1, (hb3.f _).trans d2, hb3.hold d3, fun i hi hki => ?_⟩, Below.next (Nat.le_refl _) dB hb3.b |>.mono (Nat.le_refl _)⟩
      rcases Nat.lt_or_ge i (l.length - k) with h1 | h1
      · obtain rfl : i = l.length - 1 - k := by omega
        rw [← HX.out]; exact h0
      · exact D4.out i hi h1
    · gi_wp2_with (refine ⟨trivial, ?_⟩; gi_at_call 56; refine (CallsIn.inRound L (callsIn_wide.2 (fReduce_u _ _ _))).mono ?_; rintro e w3 ⟨rfl, hb3⟩; have e1 := hb3.hold d1; have e2 := (hb3.f _).trans d2)
      refine ⟨(keeps_below hb3.b).trans (keeps_set _ _ _ _), ⟨World.cell?_setCell_same _ _ _ e1, D4.out, fun h => ?_⟩, (Below.next (Nat.le_refl _) dB hb3.b).setCell (by show w.heap.size ≤ w.heap.size + 1; omega) _⟩
      rw [← HX.out]; exact h0
  case done =>
    rintro D W1 hD ⟨⟨d0, d1, d2, d3, d4⟩, dB⟩ hK
    have D4 := Lib.hid d4
    clear d4
    go_wp2
    have hK2 : (W1.setCell ⟨w.heap.size + 1, 0, none⟩ (.int .i64 (-1))).heap[D]? = some (.deferred (some [])) := (keeps_set w.heap.size W1 _ _).same D _ (by omega) hK rfl
    have hc2 := cell_kept (World.cell?_setCell_same W1 ⟨w.heap.size + 1, 0, none⟩ (.int .i64 (-1)) d1) (grownBy_putObj' _ D (.deferred none)) (fun r e => by cases e; exact ⟨_, hK2, rfl⟩)
    refine ⟨by simp, .inl ⟨_, _, rfl, run_takeDeferred hK2, ?_⟩⟩
    refine ⟨_, by simp [results, Try.results116, go_sem, hc2] <;> rfl, ?_, ?_⟩
    · have h0 : (l.map (rd p)).length - l.length = 0 := by simp
      rw [cut0_upper (l.map (rd p)) 0 (fun i hi _ => by rw [List.getElem_map]; exact D4.out i (by simpa using hi) (by omega)) (Nat.zero_le _)]
      rfl
    · exact ((dB.setCell (by show w.heap.size ≤ w.heap.size + 1; omega) _).trans (belowK_b (w := w) (Nat.le_refl _) _ D _ _ (by omega) hK2 rfl rfl))
  case stop =>
    rintro D k W1 hD hk ⟨⟨d0, d1, d2⟩, dB⟩ hK
    have D1 := Lib.hid (And.intro d1 d2)
    clear d1 d2
    gi_wp2
    have hc2 := cell_kept d0 (grownBy_putObj' _ D (.deferred none)) (fun r e => by cases e; exact ⟨_, hK, rfl⟩)
    refine ⟨by simp, .inl ⟨_, _, rfl, run_takeDeferred hK, ?_⟩⟩
    refine ⟨_, by simp [results, Try.results116, go_sem, hc2] <;> rfl, ?_, ?_⟩
    · have h1 := cut0_top (l := l.map (rd p)) (k := l.length - 1 - k) (by simp; omega) (by rw [List.getElem_map]; exact D1.out.2 (by omega)) (fun i hi hki => by rw [List.getElem_map]; exact D1.out.1 i (by simpa using hi) (by omega))
      rw [h1]
      congr 2
      omega
    · exact dB.trans (belowK_b (w := w) (Nat.le_refl _) _ D _ _ (by omega) hK rfl rfl)

/-! A region that draws its order and ends with a few operations in one forced order, in a round. -/
open Go.BigFrame in
theorem regionIn_tail {P : Program} {C : World → Prop} {id L m : Nat} {Q : Exit → Act → World → Prop} {a : Act} {w : World} {l : List Oper} (n : Nat) (hm : P.follows .mixedOrders = true) (hd : noDefer l.toArray = true) (hQ : ¬ LetsOut Q)
    (hB : Region.lexTailB .any l.toArray n = true) (hC : C w.drew)
    (h : wpQuiet P l.toArray C (fun a' => ∀ w', C w' → wpList P l.toArray Q (l.drop n) a' w') (l.take n) a) : (Code.region id l.toArray true).wpIn (Fence.wide.inRound L) m P Q a w := by
  simp only [Region.lexTailB, Bool.and_eq_true, decide_eq_true_eq] at hB
  obtain ⟨⟨⟨⟨hsel, hn⟩, hs⟩, hc⟩, hlex⟩ := hB
  have hn' : n < l.length := by simpa using hn
  have htl : (l.take n).length = n := by simp; omega
  have hdl : (l.drop n).length = l.toArray.size - n := by simp
  have inv0 : HeadInv .any l.toArray n (Array.replicate l.toArray.size false) :=
    ⟨by simp, fun j oj _ hl => (by rw [getD_replicate_false] at hl; cases hl), fun t _ ht => getD_in (by simpa using ht) (getD_replicate_false _ _)⟩
  have H := anyT_lex (md := .any) (g := l.toArray.size - n) hsel hs hc hn (l.take n) 0 _ a
    (fun j hj => by rw [htl] at hj; simp [hj]) (by simpa using htl) inv0 (by rw [htl]; exact hlex) h
  refine wpIn_region_any hm (anyIn_of_any hd hQ _ _ _ _ ?_)
  have H2 := anyT_any (Q := Q) (g := l.toArray.size - n) (fun listed a' w' hw' hL => by
    have h3 := wpAny_of_seq (md := .any) (Q' := Q) (l.drop n) n listed a' w' (fun j => by simp [List.getElem?_drop]) (by rw [hdl]; exact hL.1) (hL.2 w' hw')
    rwa [hdl] at h3) _ _ _ _ hC H
  rw [htl, show n + (l.toArray.size - n) = l.toArray.size by omega] at H2
  exact H2
open Go.BigFrame in
theorem wpIn_region_nwt {P : Program} {id L m : Nat} {Q : Exit → Act → World → Prop} {a : Act} {w : World} {q : NwAt w} {l : List Oper} (n : Nat) (hm : P.follows .mixedOrders = true) (hd : noDefer l.toArray = true) (hQ : ¬ LetsOut Q) (hB : Region.lexTailB .any l.toArray n = true)
    (h : wpQuiet P l.toArray (fun w' => ∃ q : NwAt w, w' = q.out) (fun a' => ∀ w', (∃ q : NwAt w, w' = q.out) → wpList P l.toArray Q (l.drop n) a' w') (l.take n) a) : (Code.region id l.toArray true).wpIn (Fence.wide.inRound L) m P Q a q.out :=
  regionIn_tail (C := fun w' => ∃ q : NwAt w, w' = q.out) n hm hd hQ hB q.drew h
theorem fromIn_here {F : Fence} {m : Nat} {P : Program} {c : Code} {Q : Exit → Act → World → Prop} {a : Act} {W : World} (h : ∀ q : NwAt W, c.wpIn F m P Q a q.out) : c.wpIn F m P Q a W := h ⟨W, Nw.refl _ _⟩

/-- The value by Horner's rule, from the last coefficient on. -/
def evh (p : Int) (l : List Int) (x : Int) : Nat → Int
  | 0 => 0
  | k + 1 => ad p (ml p (evh p l x k) x) (l.getD (l.length - 1 - k) 0)
instance evh_u {p x : Int} {l : List Int} : ∀ {k : Nat}, U (evh p l x k)
  | 0 => show U 0 from inferInstance
  | _ + 1 => show U (ad p _ _) from inferInstance
theorem evh_ph {p : Int} (hk : known p = true) (l : List Int) (x : Int) : ∀ k, k ≤ l.length → ph p (evh p l x k) = Po.ev (fun i => pf p l (l.length - k + i)) (ph p x) k := by
  intro k
  induction k with
  | zero => intro _; exact ph_zero hk
  | succ k ih =>
    intro h
    rw [evh, ph_ad hk, ph_ml hk, ih (by omega), Po.ev]
    have e : Po.tl (fun i => pf p l (l.length - (k + 1) + i)) = fun i => pf p l (l.length - k + i) := funext fun i => by
      show pf p l (l.length - (k + 1) + (i + 1)) = _
      congr 1; omega
    rw [e, show l.length - 1 - k = l.length - (k + 1) + 0 by omega]
    show _ + pf p l _ = _
    grind
theorem evh_end {p : Int} (l : List Int) (x : Int) : evh p l x l.length = ival p (Po.ev (pf p l) (ph p x) l.length) := by
  refine ival_of (fun hk => ⟨?_, ?_⟩) fun hk => ?_
  · cases l.length with
    | zero => have := known_lo hk; exact ⟨by show (0 : Int) ≤ 0; omega, by show (0 : Int) < p; omega⟩
    | succ n => exact ad_bd hk _ _
  · rw [evh_ph hk l x _ (Nat.le_refl _)]
    congr 1
    funext i
    simp
  · cases l.length with
    | zero => rfl
    | succ n => show ad p _ _ = 0; rw [ad, hk]; rfl

/-- Between two rounds of Eval. -/
def EvI (p x : Int) (l : List Int) (v : Value) (B0 : Nat) (k : Nat) (W : World) : Prop :=
  W.cell? ⟨B0, 0, none⟩ = some (.int .u64 p) ∧ W.cell? ⟨B0 + 1, 0, none⟩ = some (.int .u64 x) ∧ W.cell? ⟨B0 + 1 + 1, 0, none⟩ = some (.int .u64 (evh p l x k)) ∧ W.frozen? ⟨B0 + 1 + 1, 0, none⟩ = false ∧ W.cell? ⟨B0 + 1 + 1 + 1, 0, none⟩ = some v

set_option maxRecDepth 100000 in
set_option maxHeartbeats 4000000 in
theorem oEval_any (p x : Int) [hx : U x] (v : Value) (l : List Int) (w : World) (hl : Lst w v l) (hn : l.length ≤ 1000) :
    Calls Try.prog 84 #[.agg #[.int .u64 p], v, .int .u64 x] w fun e w' => e = .returned (.int .u64 (ival p (Po.ev (pf p l) (ph p x) l.length))) ∧ Below w.heap.size w w' := by
  obtain ⟨a0, c0, rfl⟩ := hl.shape
  have HL := Lib.hid hl
  have HV := Lib.hid (show ∃ a m c, Value.slice a0 l.length c0 = .slice a m c from ⟨_, _, _, rfl⟩)
  clear hl
  refine (callsIn_wide (n := 3)).1 ?_
  refine callsIn_of_wp_marks Try.func84 rfl trivial ?_ rfl
  refine wpIn_wide.2 ?_
  simp only [Try.ntmps84, List.size_toArray, List.length_cons, List.length_nil, Nat.reduceAdd, Nat.reduceSub, Array.replicate_succ, Array.replicate_zero, List.push_toArray, List.append_toArray, List.nil_append, List.cons_append]
  go_wp2_with (go_at_call 111; refine (back_any _ HV.out _).mono ?_; rintro e w5 ⟨rfl, rfl⟩)
  refine name_world ?_
  intro W hW
  have hb : Below w.heap.size w W := by rw [hW]; (repeat (first | exact Below.refl _ _ | refine Below.setCell ?_ (by show w.heap.size ≤ _; simp; try omega) _ | refine Below.made (by simp <;> omega) ?_ _))
  have z0 : W.cell? ⟨w.heap.size, 0, none⟩ = some (.int .u64 p) := by rw [hW]; go_simp
  have z1 : W.cell? ⟨w.heap.size + 1, 0, none⟩ = some (.int .u64 x) := by rw [hW]; go_simp
  have z2 : W.cell? ⟨w.heap.size + 1 + 1, 0, none⟩ = some (.int .u64 0) := by rw [hW]; go_simp
  have z3 : W.frozen? ⟨w.heap.size + 1 + 1, 0, none⟩ = false := by rw [hW]; go_simp
  have z4 : W.cell? ⟨w.heap.size + 1 + 1 + 1, 0, none⟩ = some (.slice a0 l.length c0) := by rw [hW]; go_simp
  have hsz : W.heap.size = w.heap.size + 4 := by rw [hW]; simp
  clear hW
  refine (wpIn_wide (n := 3)).1 ?_
  refine back_loop (F := Fence.wide) (n := 3) rfl (by omega) trivial (Bs := w.heap.size + 1 + 1 + 1) (N := l.length) (v := .slice a0 l.length c0) rfl ⟨_, _, rfl⟩ hn rfl
    (fun k W => EvI p x l (.slice a0 l.length c0) w.heap.size k W ∧ Below w.heap.size w W) (fun _ _ => False)
    (ownFrom_of (by omega) (by omega) fun k A A' hs hk => ⟨(hk _ _ hs.1).1, (hk _ _ hs.2.1).1, (hk _ _ hs.2.2.1).1, (hk _ _ hs.2.2.1).2.trans hs.2.2.2.1, (hk _ _ hs.2.2.2.2).1⟩)
    (fun _ _ _ _ hs _ _ => hs) ⟨⟨z0, z1, z2, z3, z4⟩, hb⟩
    (fun k A h => (HL.out.hold h.2).seen h.1.2.2.2.2) ?a1 ?assign ?body ?done ?stop
  case assign =>
    intro l x u W K hK
    gi_wp2
    exact hK
  case body =>
    rintro L k b o c u W1 hk ⟨⟨d0, d1, d2, d3, d4⟩, dB⟩ he hc
    obtain rfl := (HL.out.hold dB).here (by omega) he hc
    have hux := HL.out.us _ (List.getElem_mem (show l.length - 1 - k < l.length by omega))
    obtain ⟨y, hy⟩ : ∃ y, y = l[l.length - 1 - k] := ⟨_, rfl⟩
    have hey : evh p l x (k + 1) = ad p (ml p (evh p l x k) x) y := by rw [evh, getD_lt _ (by omega), hy]
    obtain ⟨z, hz⟩ : ∃ z, z = evh p l x k := ⟨_, rfl⟩
    have hzu : U z := by rw [hz]; infer_instance
    rw [← hy] at hux hc ⊢
    rw [← hz] at d2 hey
    have HX := Lib.hid (And.intro hz hey)
    clear hy he hc hz hey
    gi_wp2_with fail
    have k0 := fun q : NwAt W1 => q.nw.hold d0
    have k1 := fun q : NwAt W1 => q.nw.hold d1
    have k2 := fun q : NwAt W1 => q.nw.hold d2
    have k3 := fun q : NwAt W1 => q.nw.holdf d3
    refine fromIn_here ?_
    intro q
    refine wpIn_region_nwt 7 (by kernel_rfl) (by kernel_rfl) (by rintro ⟨a, w, h⟩; exact h) (by kernel_rfl) ?_
    simp only [List.take_succ_cons, List.take_zero, List.drop_succ_cons, List.drop_zero]
    repeat (go_big_quiet_step ((first | (go_at_call 38; exact nwAt_of (fMul_u _ _ _ _)) | (go_at_call 97; exact nwAt_of (fAdd_u _ _ _ _)))))
    refine wpQuiet_nil ?_
    clear q
    rintro _ ⟨q, rfl⟩
    have j2 := k2 q
    have j3 := k3 q
    clear k2 k3
    go_wp2
    have far : ∀ {a : Addr} {v : Value}, a.block ≠ w.heap.size + 1 + 1 → W1.cell? a = some v → (q.out.setCell ⟨w.heap.size + 1 + 1, 0, none⟩ (.int .u64 (ad p (ml p z x) y))).cell? a = some v := fun ha hv =>
      (World.cell?_setCell_far _ _ _ _ (Ne.symm ha)).trans (q.nw.hold hv)
    refine ⟨(keeps_below q.nw.b).trans (keeps_set _ _ _ _), ⟨far (by show w.heap.size ≠ _; omega) d0, far (by show w.heap.size + 1 ≠ _; omega) d1, ?_, (World.frozen?_setCell _ _ _ _).trans j3, far (by show w.heap.size + 1 + 1 + 1 ≠ _; omega) d4⟩,
      (Below.next (Nat.le_refl _) dB q.nw.b).setCell (by show w.heap.size ≤ w.heap.size + 1 + 1; omega) _⟩
    rw [HX.out.2]
    exact World.cell?_setCell_same _ _ _ j2
  case done =>
    rintro D W1 hD ⟨⟨d0, d1, d2, d3, d4⟩, dB⟩ hK
    go_wp2
    refine ⟨by simp, .inl ⟨_, _, rfl, run_takeDeferred hK, ?_⟩⟩
    exact ⟨_, results_tmp rfl _ _ _, by rw [evh_end]; rfl, dB.trans (belowK_b (w := w) (Nat.le_refl _) _ D _ _ (by omega) hK rfl rfl)⟩
  case stop =>
    rintro D k W1 _ _ h _
    exact h.elim
end Go.Proofs.Ytdcdaclkeocfpaa

namespace Go.Proofs.Ytdcdaclkeocfpaa
open Go.RowKit

theorem empty_own (W : World) (base : Nat) (hb : base ≤ W.heap.size) : Own (W.alloc (.cells #[] 22)) base (.slice (some ⟨W.heap.size, 0, none⟩) 0 0) [] :=
  ⟨World.ownsRow_made W #[] 0 hb (by unfold maxLen; omega) rfl, us_nil⟩

set_option maxHeartbeats 1000000 in
theorem clone_u (v : Value) (l : List Int) (w : World) (hl : Lst w v l) (hn : l.length ≤ 100000) : Calls Try.prog 71 #[v] w (Gives w l) := by
  have HL := Lib.hid hl
  have qn : ∀ (w : World) (a : Option Addr) (n c n' c' : Nat), (binOp .eql 36 (.slice a n c) (.slice none n' c')).run Try.prog w = .ok (.bool a.isNone) w := fun w a n c n' c' => Lib.run_eql_slice_nil w _ _ a n c n' c' Try.underlying36
  rcases hl.form with ⟨rfl, rfl⟩ | ⟨ad, c, rfl⟩
  · clear hl
    go_enter Try.func71, Try.ntmps71
    go_wp2
    go_ret
    exact ⟨_, rfl, Own.nil _ _, Below.refl _ _⟩
  · clear hl
    go_enter Try.func71, Try.ntmps71
    go_wp2_with (at_builtin; refine append_all rfl (.tmp 5) (.tmp 6) rfl w.heap.size _ _ rfl (empty_own _ _ (Nat.le_refl _)) _ l rfl (HL.out.hold (Below.made (Nat.le_refl _) (Below.refl _ _) _)) (by simp) (by omega) (by simp) ?_; intro v' w' hown' hb')
    go_ret
    exact ⟨_, rfl, by simpa using hown', (Below.made (Nat.le_refl _) (Below.refl _ _) _).trans hb'⟩

/-- trim, in the memory of its argument. -/
def Trimmed (p : Int) (base : Nat) (v : Value) (l : List Int) (w : World) (e : Ending) (w' : World) : Prop :=
  ∃ v', e = .returned v' ∧ v'.ownBlock = v.ownBlock ∧ Own w' base v' (cut0 (l.map (rd p))) ∧ w.grownBy w' v.ownBlock

/-- The first k elements reduced. -/
def redK (p : Int) (l : List Int) (k : Nat) : List Int := (l.take k).map (rd p) ++ l.drop k
theorem redK_len (p : Int) (l : List Int) (k : Nat) : (redK p l k).length = l.length := by simp [redK]; omega
theorem redK_at {p : Int} {l : List Int} {k : Nat} (h : k < l.length) : (redK p l k)[k]? = some l[k] := by
  rw [redK, List.getElem?_append_right (by simp; omega)]
  simp [List.length_take, Nat.min_eq_left (Nat.le_of_lt h), h]
theorem redK_set {p : Int} {l : List Int} {k : Nat} (h : k < l.length) : (redK p l k).set k (rd p l[k]) = redK p l (k + 1) := by
  have h1 : ((l.take k).map (rd p)).length = k := by simp; omega
  rw [redK, List.set_append_right _ _ (by omega), h1, Nat.sub_self, redK, take_snoc h, List.map_append, List.append_assoc, List.drop_eq_getElem_cons h]
  rfl
theorem redK_end (p : Int) (l : List Int) : redK p l l.length = l.map (rd p) := by simp [redK]
theorem rd_rd (p x : Int) : rd p (rd p x) = rd p x := by
  by_cases hk : known p = true
  · rw [rd, if_pos hk, rd, if_pos hk, Int.emod_emod]
  · rw [rd, if_neg hk, rd, if_neg hk]
theorem cut0_take (l : List Int) : l.take (cut0 l).length = cut0 l := by
  refine snoc_induct (P := fun l => l.take (cut0 l).length = cut0 l) rfl ?_ l
  intro m x ih
  by_cases hx : x = 0
  · subst hx
    rw [cut0_snoc_zero, List.take_append_of_le_length (cut0_len m)]; exact ih
  · rw [cut0_snoc m hx, List.take_length]

set_option maxHeartbeats 4000000 in
theorem trim_w (p : Int) (base : Nat) (v : Value) (l : List Int) (w : World) (hown : Own w base v l) (hn : l.length ≤ 1000) :
    Calls Try.prog 92 #[.agg #[.int .u64 p], v] w (Trimmed p base v l w) := by
  rcases hown.cases with ⟨rfl, rfl⟩ | ⟨g, cap, rfl, hbg, hgw, hlc, hcm⟩
  · clear hown
    go_enter Try.func92, Try.ntmps92
    go_wp2
    go_loopw [9] (fun iv wr => iv = .int .i64 0 ∧ wr.cell? ⟨w.heap.size, 0, none⟩ = some (.int .u64 p) ∧ Below w.heap.size w wr) (fun iv _ => 0)
    case atStart => exact ⟨rfl, by go_simp, Below.made (Nat.le_refl _) (Below.refl _ _) _⟩
    case round =>
      obtain ⟨rfl, hp, hb⟩ := hrel
      go_wp2_with (go_at_call 116; refine (oDegree_any p _ [] _ (Lst.nil _) (by simp)).mono ?_; rintro _ w1 ⟨rfl, hb1⟩; rw [show (((cut0 (List.map (rd p) [])).length : Nat) : Int) - 1 = -1 from rfl])
      go_ret
      exact ⟨_, rfl, rfl, Own.nil _ _, grown_below (Below.next (Nat.le_refl _) hb hb1)⟩
  · have HW := Lib.hid hown
    have hlc' : (l.length : Int) ≤ (cap : Int) := by omega
    clear hown
    go_enter Try.func92, Try.ntmps92
    go_wp2
    go_loopw [9] (fun iv wr => ∃ k : Nat, iv = .int .i64 k ∧ k ≤ l.length ∧ wr.cell? ⟨w.heap.size, 0, none⟩ = some (.int .u64 p) ∧ Own wr base (.slice (some ⟨g, 0, none⟩) l.length cap) (redK p l k) ∧ w.grownBy wr (some g)) (fun iv _ => l.length - (intOf iv).toNat)
    case atStart => exact ⟨0, rfl, Nat.zero_le _, by go_simp, HW.out.hold (Below.made (Nat.le_refl _) (Below.refl _ _) _), grown_below (Below.made (Nat.le_refl _) (Below.refl _ _) _)⟩
    case round =>
      obtain ⟨k, rfl, hk, hp, hown, hg⟩ := hrel
      have hz := hown.thawed k
      by_cases hlt : k < l.length
      · have hc : wr.cell? ⟨g, k, none⟩ = some (.int .u64 l[k]) := by
          rw [hown.cell (by rw [redK_len]; exact hlt)]
          have := redK_at (p := p) hlt
          rw [List.getElem?_eq_getElem (by rw [redK_len]; exact hlt)] at this
          simpa using this
        have hux := HW.out.us l[k] (List.getElem_mem hlt)
        have hgs := hown.row.lt g rfl
        have i0 : (0 : Int) ≤ (k : Int) := by omega
        have i1 : (k : Int) < (l.length : Int) := by omega
        have i2 : (l.length : Int) ≤ 1000 := by omega
        have hset := redK_set (p := p) hlt
        have HO := Lib.hid (And.intro hown (And.intro hg hset))
        clear hown hg hset
        go_wp2_with (go_at_call 56; refine (fReduce_u _ _ _).mono ?_; rintro _ w1 ⟨rfl, hb1⟩; have hc1 := hb1.hold hc; have hz1 := (hb1.f _).trans hz)
        have hs := (HO.out.1.hold hb1.b).set k (rd p l[k])
        refine ⟨⟨k + 1, by go_num, by omega, ?_, by rw [← HO.out.2.2]; exact hs.1, grown_trans (grown_next HO.out.2.1 hb1.b) hs.2⟩, by simp [intOf]; omega⟩
        rw [World.cell?_setCell_far _ _ _ _ (by show g ≠ w.heap.size; omega)]
        exact hb1.hold hp
      · obtain rfl : k = l.length := by omega
        rw [redK_end] at hown
        have HO := Lib.hid (And.intro hown hg)
        have hm : (cut0 ((l.map (rd p)).map (rd p))).length = (cut0 (l.map (rd p))).length := by
          rw [List.map_map]; congr 2; exact List.map_congr_left fun x _ => rd_rd p x
        have hle := cut0_len (l.map (rd p))
        obtain ⟨m, hm2⟩ : ∃ m, m = (cut0 (l.map (rd p))).length := ⟨_, rfl⟩
        rw [← hm2] at hm hle
        rw [List.length_map] at hle
        have i0 : (0 : Int) ≤ (m : Int) := by omega
        have i1 : (m : Int) ≤ (l.length : Int) := by omega
        have i2 : (l.length : Int) ≤ 1000 := by omega
        have i3 : (m : Int) ≤ (cap : Int) := by omega
        have HM := Lib.hid (And.intro hm hm2)
        clear hown hg hm hm2
        go_wp2_with (go_at_call 116; refine (oDegree_any p _ (l.map (rd p)) _ (by have := HO.out.1.lst; simpa using this) (by simp; omega)).mono ?_; rintro _ w1 ⟨rfl, hb1⟩; rw [HM.out.1])
        go_ret
        refine ⟨_, rfl, rfl, ?_, grown_next HO.out.2 hb1⟩
        have h := (HO.out.1.hold hb1).take (k := m) (by omega)
        rw [HM.out.2, cut0_take] at h
        rw [HM.out.2]; exact h

/-- A new list is returned: what 'Gives' says. -/
theorem oTrim_any (p : Int) (v : Value) (l : List Int) (w : World) (hl : Lst w v l) (hn : l.length ≤ 1000) : Calls Try.prog 50 #[.agg #[.int .u64 p], v] w (Gives w (cut0 (l.map (rd p)))) := by
  have HL := Lib.hid hl
  clear hl
  go_enter Try.func50, Try.ntmps50
  go_upto_region 1 with fail
  refine name_world ?_
  intro W hW
  have hf : W.cell? ⟨w.heap.size, 0, none⟩ = some (.int .u64 p) := by rw [hW]; go_simp
  have hb : Below w.heap.size w W := by rw [hW]; exact Below.made (Nat.le_refl _) (Below.refl _ _) _
  have HB := Lib.hid hb
  have HA := Lib.hid (HL.out.hold hb)
  have hcell := fun (w' : World) (h : Below W.heap.size W w') => Below.hold h hf
  have F := Below.refl W.heap.size W
  clear hW hf hb
  go_region_held3 (fun w' => Below W.heap.size W w')
    (repeat (first | assumption | refine Below.drew ?_ | refine Below.next (Nat.le_refl _) ?_ (by assumption)))
    (first
      | (go_at_call 71; refine (clone_u _ l _ (HA.out.hold (by assumption)) (by omega)).mono ?_; rintro _ w2 ⟨vC, rfl, hoC, hb2⟩)
      | (go_at_call 92; refine (trim_w p _ _ l _ hoC (by omega)).mono ?_; rintro _ w3 ⟨vT, rfl, _, hoT, hg⟩; have hb3 := Below.wrote hb2 (Nat.le_refl _) hb2.size hoC hg))
  all_goals
    go_wp2
    go_ret
    exact ⟨_, rfl, hoT.low (by have := HB.out.size; simpa using this), Below.next (Nat.le_refl _) HB.out (by assumption)⟩
end Go.Proofs.Ytdcdaclkeocfpaa

namespace Go.Proofs.Ytdcdaclkeocfpaa
open Go.RowKit Go.BigFrame

/-- With zeros at the end, up to n elements. -/
def extL (l : List Int) (n : Nat) : List Int := l ++ List.replicate (n - l.length) 0
theorem extL_len (l : List Int) (n : Nat) : (extL l n).length = max l.length n := by simp [extL]; omega
theorem extL_getD (l : List Int) (n i : Nat) : (extL l n).getD i 0 = l.getD i 0 := by
  rcases Nat.lt_or_ge i l.length with h | h
  · rw [getD_lt _ h, getD_lt _ (by rw [extL_len]; omega)]
    simp [extL, List.getElem_append_left h]
  · rw [getD_ge l h]
    rcases Nat.lt_or_ge i (extL l n).length with h2 | h2
    · rw [getD_lt _ h2]
      simp [extL, List.getElem_append_right h]
    · rw [getD_ge _ h2]
theorem Own.exact {w : World} {base g n : Nat} {l : List Int} (h : Own w base (.slice (some ⟨g, 0, none⟩) n n) l) : w.heap[g]? = some (.cells (vs l).toArray 22 (0, 0)) := by
  obtain rfl := h.len
  rcases h.row.2 with ⟨e, _⟩ | ⟨g', cap, cur, e, hb, hg, hn, hm, hs, ht⟩
  · cases e
  · obtain ⟨rfl, rfl⟩ : g = g' ∧ l.length = cap := by simp at e; exact e
    rw [hg, ← ht, List.take_of_length_le (by simp; omega)]
theorem own_of {w : World} {base g : Nat} {l : List Int} (hb : base ≤ g) (hg : w.heap[g]? = some (.cells (vs l).toArray 22 (0, 0))) (hl : l.length ≤ 1000000) (hu : Us l) : Own w base (.slice (some ⟨g, 0, none⟩) l.length l.length) l :=
  ⟨⟨by rw [vs_len]; omega, .inr ⟨g, l.length, _, rfl, hb, hg, Nat.le_refl _, by unfold maxLen; omega, by simp [vs], by rw [Nat.mul_one]; exact List.take_of_length_le (by simp [vs])⟩⟩, hu⟩

theorem splice_vs (l : List Int) (m : Nat) : splice (vs (List.replicate m 0)) 0 (vs l) = vs (extL l m) := by
  simp [splice, vs, extL]
theorem copy_src {w : World} {a0 : Option Addr} {c0 : Nat} {l : List Int} (h : Lst w (.slice a0 l.length c0) l) (hp : 0 < (vs l).length) : ∃ ad, a0 = some ad ∧ ∀ (j : Nat) (v : Value), (vs l)[j]? = some v → w.cell? (ad.add j) = some v := by
  rw [vs_len] at hp
  obtain ⟨b, o, c, e, _⟩ := h.cells 0 hp
  obtain ⟨rfl, rfl⟩ : a0 = some ⟨b, o, none⟩ ∧ c0 = c := by simp at e; exact e
  refine ⟨_, rfl, fun j v hj => ?_⟩
  have hjn : j < l.length := by have := (List.getElem?_eq_some_iff.1 hj).1; rwa [vs_len] at this
  rw [vs_at hjn] at hj
  cases hj
  obtain ⟨b1, o1, c1, e1, h1⟩ := h.cells j hjn
  cases e1
  rw [Go.WideShapes.add_plain]
  exact h1

/-- k elements from o on replaced. -/
def updK (f : Nat → Int) (L : List Int) (o k : Nat) : List Int := (List.range L.length).map fun i => if o ≤ i ∧ i < o + k then f i else L.getD i 0
theorem updK_len (f : Nat → Int) (L : List Int) (o k : Nat) : (updK f L o k).length = L.length := by simp [updK]
theorem updK_zero (f : Nat → Int) (L : List Int) (o : Nat) : updK f L o 0 = L := by
  refine List.ext_getElem (updK_len _ _ _ _) fun i h1 h2 => ?_
  simp only [updK, List.getElem_map, List.getElem_range]
  rw [if_neg (by omega), getD_lt _ h2]
theorem updK_at {f : Nat → Int} {L : List Int} {o k : Nat} (h : o + k < L.length) : (updK f L o k)[o + k]'(by rw [updK_len]; exact h) = L[o + k] := by
  simp only [updK, List.getElem_map, List.getElem_range]
  rw [if_neg (by omega), getD_lt _ h]
theorem updK_set {f : Nat → Int} {L : List Int} {o k : Nat} : (updK f L o k).set (o + k) (f (o + k)) = updK f L o (k + 1) := by
  refine List.ext_getElem (by simp [updK_len]) fun i h1 h2 => ?_
  rw [List.getElem_set]
  simp only [updK, List.getElem_map, List.getElem_range]
  by_cases hi : o + k = i
  · subst hi
    rw [if_pos rfl, if_pos (by omega)]
  · rw [if_neg hi]
    by_cases h3 : o ≤ i ∧ i < o + k
    · rw [if_pos h3, if_pos (by omega)]
    · rw [if_neg h3, if_neg (by omega)]
theorem updK_at0 {f : Nat → Int} {L : List Int} {k : Nat} (h : k < L.length) : (updK f L 0 k)[k]'(by rw [updK_len]; exact h) = L[k] := by
  simp only [updK, List.getElem_map, List.getElem_range]
  rw [if_neg (by omega), getD_lt _ h]
theorem updK_set0 {f : Nat → Int} {L : List Int} {k : Nat} : (updK f L 0 k).set k (f k) = updK f L 0 (k + 1) := by
  have h := updK_set (f := f) (L := L) (o := 0) (k := k)
  simp only [Nat.zero_add] at h
  exact h
theorem updK_getD (f : Nat → Int) (L : List Int) (o k i : Nat) : (updK f L o k).getD i 0 = if i < L.length ∧ o ≤ i ∧ i < o + k then f i else L.getD i 0 := by
  rcases Nat.lt_or_ge i L.length with h | h
  · rw [getD_lt _ (by rw [updK_len]; exact h)]
    simp only [updK, List.getElem_map, List.getElem_range]
    by_cases h3 : o ≤ i ∧ i < o + k
    · rw [if_pos h3, if_pos ⟨h, h3⟩]
    · rw [if_neg h3, if_neg (by omega)]
  · rw [getD_ge _ (by rw [updK_len]; exact h), getD_ge L h, if_neg (by omega)]
/-- What addMultiple leaves. -/
def addL (p m : Int) (L a : List Int) (o : Nat) : Nat → Int := fun i => ad p (L.getD i 0) (ml p (a.getD (i - o) 0) m)

set_option maxHeartbeats 4000000 in
theorem addMultiple_w (p m : Int) [hm : U m] (base g n c cap o : Nat) (L a : List Int) (va : Value) (w : World) (hown : Own w base (.slice (some ⟨g, 0, none⟩) L.length cap) L) (hla : Lst w va a) (hoff : 0 < a.length → va.ownBlock ≠ some g) (ho : o + a.length ≤ L.length) (hn : a.length ≤ n) (hL : L.length ≤ 1000) :
    Calls Try.prog 89 #[.agg #[.int .u64 p], .slice (some ⟨g, o, none⟩) n c, va, .int .u64 m] w fun e w' =>
      e = .returned (.tuple #[]) ∧ Own w' base (.slice (some ⟨g, 0, none⟩) L.length cap) (updK (addL p m L a o) L o a.length) ∧ w.grownBy w' (some g) := by
  obtain ⟨a0, c0, rfl⟩ := hla.shape
  have hgw := (hown.row.lt g rfl).2
  have HW := Lib.hid hown
  have HL := Lib.hid hla
  have HN := Lib.hid (And.intro hoff ho)
  clear hown hla hoff ho
  go_enter Try.func89, Try.ntmps89
  go_wp2
  go_loopw [12] (fun iv wr => ∃ k : Nat, iv = .int .i64 k ∧ k ≤ a.length ∧ wr.cell? ⟨w.heap.size, 0, none⟩ = some (.int .u64 p) ∧ Own wr base (.slice (some ⟨g, 0, none⟩) L.length cap) (updK (addL p m L a o) L o k) ∧ w.grownBy wr (some g)) (fun iv _ => a.length - (intOf iv).toNat)
  case atStart => exact ⟨0, rfl, Nat.zero_le _, by go_simp, by rw [updK_zero]; exact HW.out.hold (Below.made (Nat.le_refl _) (Below.refl _ _) _), grown_below (Below.made (Nat.le_refl _) (Below.refl _ _) _)⟩
  case round =>
    obtain ⟨k, rfl, hk, hp, hown, hg⟩ := hrel
    by_cases hlt : k < a.length
    · have hok : o + k < L.length := by have := HN.out.2; omega
      have hc : wr.cell? ⟨g, o + k, none⟩ = some (.int .u64 L[o + k]) := by
        rw [hown.cell (by rw [updK_len]; exact hok), updK_at hok]
      have hz := hown.thawed (o + k)
      have hux := HW.out.us L[o + k] (List.getElem_mem hok)
      have hua := HL.out.us a[k] (List.getElem_mem hlt)
      obtain ⟨b, oa, ca, e, hca⟩ := (HL.out.kept hg HN.out.1).cells k hlt
      obtain ⟨rfl, rfl⟩ : a0 = some ⟨b, oa, none⟩ ∧ c0 = ca := by simp at e; exact e
      clear e
      have hset := updK_set (f := addL p m L a o) (L := L) (o := o) (k := k)
      have hval : addL p m L a o (o + k) = ad p L[o + k] (ml p a[k] m) := by
        unfold addL; rw [getD_lt _ hok, show o + k - o = k by omega, getD_lt _ hlt]
      rw [hval] at hset
      obtain ⟨x, hx⟩ : ∃ x, x = L[o + k] := ⟨_, rfl⟩
      obtain ⟨y, hy⟩ : ∃ y, y = a[k] := ⟨_, rfl⟩
      rw [← hx] at hux hc hset
      rw [← hy] at hua hca hset
      have i0 : (0 : Int) ≤ (k : Int) := by omega
      have i1 : (k : Int) < (a.length : Int) := by omega
      have i2 : (a.length : Int) ≤ 1000 := by have := HN.out.2; omega
      have i3 : (k : Int) < (n : Int) := by omega
      have HO := Lib.hid (And.intro hown (And.intro hg hset))
      clear hown hg hset hx hy hval
      go_wp2_with fail
      have k0 := fun q : NwAt wr => q.nw.hold hp
      have k1 := fun q : NwAt wr => q.nw.hold hc
      have k2 := fun q : NwAt wr => q.nw.hold hca
      have k3 := fun q : NwAt wr => q.nw.holdf hz
      refine from_here ?_
      intro q
      refine wp_region_nwt 13 (by kernel_rfl) (by kernel_rfl) ?_
      simp only [List.take_succ_cons, List.take_zero, List.drop_succ_cons, List.drop_zero]
      repeat (go_big_quiet_step ((first | (go_at_call 38; exact nwAt_of (fMul_u _ _ _ _)) | (go_at_call 97; exact nwAt_of (fAdd_u _ _ _ _)))))
      refine wpQuiet_nil ?_
      clear q
      rintro _ ⟨q, rfl⟩
      have j1 := k1 q
      have j3 := k3 q
      clear k1 k3
      go_wp2
      have hs := (HO.out.1.hold q.nw.b).set (o + k) (ad p x (ml p y m))
      refine ⟨⟨k + 1, by go_num, by omega, ?_, by rw [← HO.out.2.2]; exact hs.1, grown_trans (grown_next HO.out.2.1 q.nw.b) hs.2⟩, by simp [intOf]; omega⟩
      rw [World.cell?_setCell_far _ _ _ _ (by show g ≠ w.heap.size; omega)]
      exact k0 q
    · obtain rfl : k = a.length := by omega
      have HO := Lib.hid (And.intro hown hg)
      clear hown hg
      go_wp2
      go_end0
      exact ⟨rfl, HO.out.1, HO.out.2⟩

theorem pf_upd {p : Int} (hk : known p = true) {op : Int → Int → Int} {g : Fin (Q p) → Fin (Q p) → Fin (Q p)} (hf : ∀ x y, ph p (op x y) = g (ph p x) (ph p y)) (h0 : ∀ x, g x 0 = x) (a b : List Int) :
    pf p (updK (fun i => op ((extL a b.length).getD i 0) (b.getD i 0)) (extL a b.length) 0 b.length) = fun i => g (pf p a i) (pf p b i) := funext fun i => by
  show ph p _ = g (ph p _) (ph p _)
  rw [updK_getD]
  have hl : b.length ≤ (extL a b.length).length := by rw [extL_len]; omega
  rcases Nat.lt_or_ge i b.length with h | h
  · rw [if_pos (by omega), hf, extL_getD]
  · rw [if_neg (by omega), extL_getD, getD_ge b h, ph_zero hk, h0]

theorem pf_zeros {p : Int} (hk : known p = true) (n : Nat) : pf p (List.replicate n 0) = Po.ze := funext fun i => by
  show ph p _ = 0
  rcases Nat.lt_or_ge i n with h | h
  · rw [getD_lt _ (by simpa using h), List.getElem_replicate, ph_zero hk]
  · rw [getD_ge _ (by simpa using h), ph_zero hk]
theorem pf_addL {p : Int} (hk : known p = true) (m : Int) (L a : List Int) (o : Nat) (h : o + a.length ≤ L.length) :
    pf p (updK (addL p m L a o) L o a.length) = Po.ad (pf p L) (Po.shn o (Po.sc (ph p m) (pf p a))) := funext fun i => by
  show ph p _ = ph p _ + _
  rw [updK_getD]
  rcases Nat.lt_or_ge i o with h1 | h1
  · rw [if_neg (by omega), Po.shn_low _ _ _ h1]; grind
  · obtain ⟨j, rfl⟩ : ∃ j, i = o + j := ⟨i - o, by omega⟩
    rw [Po.shn_at]
    show _ = ph p _ + ph p m * ph p _
    rcases Nat.lt_or_ge j a.length with h2 | h2
    · rw [if_pos (by omega)]
      unfold addL
      rw [ph_ad hk, ph_ml hk, show o + j - o = j by omega]
      grind
    · rw [if_neg (by omega), getD_ge a h2, ph_zero hk]; grind

end Go.Proofs.Ytdcdaclkeocfpaa
