/- The walks of package poly's Degree and Eval: loops over slices.Backward. -/
import Derived.Test.YtnmbggdfcgbniaaBack
import Derived.Test.YtnmbggdfcgbniaaOwnW
import Derived.Test.YtnmbggdfcgbniaaBwAt
import Derived.Test.YtnmbggdfcgbniaaRound
import Derived.Outline
namespace Go.Proofs.Ytnmbggdfcgbniaa
open Go.RowKit Go.Shelf
attribute [local go_sem] Oper.semAt_some

/-- What speaks of cells, and of what lay below, stays when the loop's own records turn. -/
theorem ownFrom_of {B n₀ : Nat} {w₀ : World} {C : Nat → World → Prop} (hn : n₀ ≤ w₀.heap.size) (hB : n₀ ≤ B)
    (hC : ∀ k W W', C k W → (∀ a v, W.cell? a = some v → W'.cell? a = some v ∧ W'.frozen? a = W.frozen? a) → C k W') : OwnFrom B (fun k W => C k W ∧ Below n₀ w₀ W) :=
  OwnFrom.and (Own.from (fun k W W' _ hs hg hr => hC k W W' hs fun _ _ hv => ⟨cell_kept hv hg hr, frozen_kept hv hg hr⟩) _) (ownFrom_below hn hB)
theorem Lst.here {W : World} {v : Value} {l : List Int} (h : Lst W v l) {i b o c : Nat} {u : Int} (hi : i < l.length) (he : v = .slice (some ⟨b, o, none⟩) l.length c) (hc : W.cell? ⟨b, o + i, none⟩ = some (.int .u64 u)) : u = l[i] := by
  obtain ⟨b', o', c', e', h'⟩ := h.cells i hi
  rw [he] at e'
  obtain ⟨rfl, rfl⟩ : b = b' ∧ o = o' := by simp at e'; exact ⟨e'.1.1, e'.1.2⟩
  rw [hc] at h'
  simpa using h'
theorem Lst.seen {W : World} {v : Value} {l : List Int} (h : Lst W v l) {Bs : Nat} (hb : W.cell? ⟨Bs, 0, none⟩ = some v) : Seen Bs v l.length W :=
  ⟨hb, fun i hi => by obtain ⟨b, o, c, e, hc⟩ := h.cells i hi; exact ⟨b, o, c, _, e, hc⟩⟩
theorem keeps_below {B : Nat} {W W' : World} (h : Below W.heap.size W W') : KeepsFrom B W W' := KeepsFrom.of_grownBy (grown_of_below h) (fun j e => by cases e)
theorem keeps_set (B : Nat) (W : World) (a : Addr) (v : Value) : KeepsFrom B W (W.setCell a v) := (KeepsOthers.setCell W a v).from B

/-- All zero from k on. -/
theorem cut0_upper : ∀ (l : List Int) (k : Nat), (∀ i (h : i < l.length), k ≤ i → l[i] = 0) → k ≤ l.length → cut0 l = cut0 (l.take k) := by
  intro l
  refine snoc_induct (P := fun l => ∀ k, (∀ i (h : i < l.length), k ≤ i → l[i] = 0) → k ≤ l.length → cut0 l = cut0 (l.take k)) ?_ ?_ l
  · intro k _ _; simp
  · intro m x ih k h hk
    rcases Nat.lt_or_ge m.length k with h1 | h1
    · rw [List.take_of_length_le (by simp; omega)]
    · have hx : x = 0 := by have := h m.length (by simp) h1; simpa using this
      subst hx
      rw [cut0_snoc_zero, ih k (fun i hi hki => by have := h i (by simp; omega) hki; rwa [List.getElem_append_left hi] at this) h1, List.take_append_of_le_length h1]
theorem cut0_top {l : List Int} {k : Nat} (hk : k < l.length) (h0 : l[k] ≠ 0) (h : ∀ i (h : i < l.length), k + 1 ≤ i → l[i] = 0) : (cut0 l).length = k + 1 := by
  rw [cut0_upper l (k + 1) h (by omega), take_snoc hk, cut0_snoc _ h0]
  simp; omega

/-- Between two rounds of Degree. -/
def DegI (p : Int) (l : List Int) (v : Value) (B0 : Nat) (k : Nat) (W : World) : Prop :=
  W.cell? ⟨B0, 0, none⟩ = some (.int .u64 p) ∧ W.cell? ⟨B0 + 1, 0, none⟩ = some (.int .i64 0) ∧ W.frozen? ⟨B0 + 1, 0, none⟩ = false ∧ W.cell? ⟨B0 + 1 + 1, 0, none⟩ = some v ∧
    ∀ i (h : i < l.length), l.length - k ≤ i → rd p l[i] = 0
/-- Where Degree returns in a round. -/
def DegX (p : Int) (l : List Int) (B0 : Nat) (k : Nat) (W : World) : Prop :=
  W.cell? ⟨B0 + 1, 0, none⟩ = some (.int .i64 ((l.length - 1 - k : Nat) : Int)) ∧ (∀ i (h : i < l.length), l.length - k ≤ i → rd p l[i] = 0) ∧ ∀ (h : l.length - 1 - k < l.length), rd p l[l.length - 1 - k] ≠ 0

/-! A region that draws its order and ends with a few operations in one forced order, in a round. -/
open Go.BigFrame in
theorem regionIn_tail {P : Program} {C : World → Prop} {id L m : Nat} {Q : Exit → Act → World → Prop} {a : Act} {w : World} {l : List Oper} (n : Nat) (hm : P.follows .mixedOrders = true) (hd : noDefer l.toArray = true) (hQ : ¬ LetsOut Q)
    (hB : Region.lexTailB .any l.toArray n = true) (hC : C w.drew)
    (h : wpQuiet P l.toArray C (fun a' => ∀ w', C w' → wpList P l.toArray Q (l.drop n) a' w') (l.take n) a) : (Code.region id l.toArray true).wpIn (Fence.wide.inRound L) m P Q a w := by
  simp only [Region.lexTailB, Bool.and_eq_true, decide_eq_true_eq] at hB
  obtain ⟨⟨⟨⟨hsel, hn⟩, hs⟩, hc⟩, hlex⟩ := hB
  have hn' : n < l.length := by simpa using hn
  have htl : (l.take n).length = n := by simp; omega
  have hdl : (l.drop n).length = l.toArray.size - n := by simp
  have inv0 : HeadInv .any l.toArray n (Array.replicate l.toArray.size false) :=
    ⟨by simp, fun j oj _ hl => (by rw [getD_replicate_false] at hl; cases hl), fun t _ ht => getD_in (by simpa using ht) (getD_replicate_false _ _)⟩
  have H := anyT_lex (md := .any) (g := l.toArray.size - n) hsel hs hc hn (l.take n) 0 _ a
    (fun j hj => by rw [htl] at hj; simp [hj]) (by simpa using htl) inv0 (by rw [htl]; exact hlex) h
  refine wpIn_region_any hm (anyIn_of_any hd hQ _ _ _ _ ?_)
  have H2 := anyT_any (Q := Q) (g := l.toArray.size - n) (fun listed a' w' hw' hL => by
    have h3 := wpAny_of_seq (md := .any) (Q' := Q) (l.drop n) n listed a' w' (fun j => by simp [List.getElem?_drop]) (by rw [hdl]; exact hL.1) (hL.2 w' hw')
    rwa [hdl] at h3) _ _ _ _ hC H
  rw [htl, show n + (l.toArray.size - n) = l.toArray.size by omega] at H2
  exact H2
open Go.BigFrame in
theorem wpIn_region_nwt {P : Program} {id L m : Nat} {Q : Exit → Act → World → Prop} {a : Act} {w : World} {q : NwAt w} {l : List Oper} (n : Nat) (hm : P.follows .mixedOrders = true) (hd : noDefer l.toArray = true) (hQ : ¬ LetsOut Q) (hB : Region.lexTailB .any l.toArray n = true)
    (h : wpQuiet P l.toArray (fun w' => ∃ q : NwAt w, w' = q.out) (fun a' => ∀ w', (∃ q : NwAt w, w' = q.out) → wpList P l.toArray Q (l.drop n) a' w') (l.take n) a) : (Code.region id l.toArray true).wpIn (Fence.wide.inRound L) m P Q a q.out :=
  regionIn_tail (C := fun w' => ∃ q : NwAt w, w' = q.out) n hm hd hQ hB q.drew h
theorem fromIn_here {F : Fence} {m : Nat} {P : Program} {c : Code} {Q : Exit → Act → World → Prop} {a : Act} {W : World} (h : ∀ q : NwAt W, c.wpIn F m P Q a q.out) : c.wpIn F m P Q a W := h ⟨W, Nw.refl _ _⟩

/-- The value by Horner's rule, from the last coefficient on. -/
def evh (p : Int) (l : List Int) (x : Int) : Nat → Int
  | 0 => 0
  | k + 1 => ad p (ml p (evh p l x k) x) (l.getD (l.length - 1 - k) 0)
instance evh_u {p x : Int} {l : List Int} : ∀ {k : Nat}, U (evh p l x k)
  | 0 => show U 0 from inferInstance
  | _ + 1 => show U (ad p _ _) from inferInstance
theorem evh_ph {p : Int} (hk : known p = true) (l : List Int) (x : Int) : ∀ k, k ≤ l.length → ph p (evh p l x k) = Po.ev (fun i => pf p l (l.length - k + i)) (ph p x) k := by
  intro k
  induction k with
  | zero => intro _; exact ph_zero hk
  | succ k ih =>
    intro h
    rw [evh, ph_ad hk, ph_ml hk, ih (by omega), Po.ev]
    have e : Po.tl (fun i => pf p l (l.length - (k + 1) + i)) = fun i => pf p l (l.length - k + i) := funext fun i => by
      show pf p l (l.length - (k + 1) + (i + 1)) = _
      congr 1; omega
    rw [e, show l.length - 1 - k = l.length - (k + 1) + 0 by omega]
    show _ + pf p l _ = _
    grind
theorem evh_end {p : Int} (l : List Int) (x : Int) : evh p l x l.length = ival p (Po.ev (pf p l) (ph p x) l.length) := by
  refine ival_of (fun hk => ⟨?_, ?_⟩) fun hk => ?_
  · cases l.length with
    | zero => have := known_lo hk; exact ⟨by show (0 : Int) ≤ 0; omega, by show (0 : Int) < p; omega⟩
    | succ n => exact ad_bd hk _ _
  · rw [evh_ph hk l x _ (Nat.le_refl _)]
    congr 1
    funext i
    simp
  · cases l.length with
    | zero => rfl
    | succ n => show ad p _ _ = 0; rw [ad, hk]; rfl

/-- Between two rounds of Eval. -/
def EvI (p x : Int) (l : List Int) (v : Value) (B0 : Nat) (k : Nat) (W : World) : Prop :=
  W.cell? ⟨B0, 0, none⟩ = some (.int .u64 p) ∧ W.cell? ⟨B0 + 1, 0, none⟩ = some (.int .u64 x) ∧ W.cell? ⟨B0 + 1 + 1, 0, none⟩ = some (.int .u64 (evh p l x k)) ∧ W.frozen? ⟨B0 + 1 + 1, 0, none⟩ = false ∧ W.cell? ⟨B0 + 1 + 1 + 1, 0, none⟩ = some v

end Go.Proofs.Ytnmbggdfcgbniaa
