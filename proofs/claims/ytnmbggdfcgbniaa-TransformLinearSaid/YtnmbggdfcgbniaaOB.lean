/- The walks of package poly's Degree and Eval: loops over slices.Backward. The walks of package poly's trim and Trim, and of slices.Clone. The walks of package poly's extended, addMultiple, Add, Sub, Scale. -/
import Derived.Test.YtnmbggdfcgbniaaBack
import Derived.Test.YtnmbggdfcgbniaaOwnW
import Derived.Test.YtnmbggdfcgbniaaBwAt
import Derived.Test.YtnmbggdfcgbniaaRound
import Derived.Outline
import Derived.Lib.SliceRun
import Derived.Deep.DeepCutAuto
import Derived.Deep.RegionHeld3
import Derived.Test.YtnmbggdfcgbniaaPolyG
import Derived.Laws.CopyOwn
namespace Go.Proofs.Ytnmbggdfcgbniaa
open Go.RowKit Go.Shelf
attribute [local go_sem] Oper.semAt_some

/-- What speaks of cells, and of what lay below, stays when the loop's own records turn. -/
theorem ownFrom_of {B n₀ : Nat} {w₀ : World} {C : Nat → World → Prop} (hn : n₀ ≤ w₀.heap.size) (hB : n₀ ≤ B)
    (hC : ∀ k W W', C k W → (∀ a v, W.cell? a = some v → W'.cell? a = some v ∧ W'.frozen? a = W.frozen? a) → C k W') : OwnFrom B (fun k W => C k W ∧ Below n₀ w₀ W) :=
  OwnFrom.and (Own.from (fun k W W' _ hs hg hr => hC k W W' hs fun _ _ hv => ⟨cell_kept hv hg hr, frozen_kept hv hg hr⟩) _) (ownFrom_below hn hB)
theorem Lst.here {W : World} {v : Value} {l : List Int} (h : Lst W v l) {i b o c : Nat} {u : Int} (hi : i < l.length) (he : v = .slice (some ⟨b, o, none⟩) l.length c) (hc : W.cell? ⟨b, o + i, none⟩ = some (.int .u64 u)) : u = l[i] := by
  obtain ⟨b', o', c', e', h'⟩ := h.cells i hi
  rw [he] at e'
  obtain ⟨rfl, rfl⟩ : b = b' ∧ o = o' := by simp at e'; exact ⟨e'.1.1, e'.1.2⟩
  rw [hc] at h'
  simpa using h'
theorem Lst.seen {W : World} {v : Value} {l : List Int} (h : Lst W v l) {Bs : Nat} (hb : W.cell? ⟨Bs, 0, none⟩ = some v) : Seen Bs v l.length W :=
  ⟨hb, fun i hi => by obtain ⟨b, o, c, e, hc⟩ := h.cells i hi; exact ⟨b, o, c, _, e, hc⟩⟩
theorem keeps_below {B : Nat} {W W' : World} (h : Below W.heap.size W W') : KeepsFrom B W W' := KeepsFrom.of_grownBy (grown_of_below h) (fun j e => by cases e)
theorem keeps_set (B : Nat) (W : World) (a : Addr) (v : Value) : KeepsFrom B W (W.setCell a v) := (KeepsOthers.setCell W a v).from B

/-- All zero from k on. -/
theorem cut0_upper : ∀ (l : List Int) (k : Nat), (∀ i (h : i < l.length), k ≤ i → l[i] = 0) → k ≤ l.length → cut0 l = cut0 (l.take k) := by
  intro l
  refine snoc_induct (P := fun l => ∀ k, (∀ i (h : i < l.length), k ≤ i → l[i] = 0) → k ≤ l.length → cut0 l = cut0 (l.take k)) ?_ ?_ l
  · intro k _ _; simp
  · intro m x ih k h hk
    rcases Nat.lt_or_ge m.length k with h1 | h1
    · rw [List.take_of_length_le (by simp; omega)]
    · have hx : x = 0 := by have := h m.length (by simp) h1; simpa using this
      subst hx
      rw [cut0_snoc_zero, ih k (fun i hi hki => by have := h i (by simp; omega) hki; rwa [List.getElem_append_left hi] at this) h1, List.take_append_of_le_length h1]
theorem cut0_top {l : List Int} {k : Nat} (hk : k < l.length) (h0 : l[k] ≠ 0) (h : ∀ i (h : i < l.length), k + 1 ≤ i → l[i] = 0) : (cut0 l).length = k + 1 := by
  rw [cut0_upper l (k + 1) h (by omega), take_snoc hk, cut0_snoc _ h0]
  simp; omega

/-- Between two rounds of Degree. -/
def DegI (p : Int) (l : List Int) (v : Value) (B0 : Nat) (k : Nat) (W : World) : Prop :=
  W.cell? ⟨B0, 0, none⟩ = some (.int .u64 p) ∧ W.cell? ⟨B0 + 1, 0, none⟩ = some (.int .i64 0) ∧ W.frozen? ⟨B0 + 1, 0, none⟩ = false ∧ W.cell? ⟨B0 + 1 + 1, 0, none⟩ = some v ∧
    ∀ i (h : i < l.length), l.length - k ≤ i → rd p l[i] = 0
/-- Where Degree returns in a round. -/
def DegX (p : Int) (l : List Int) (B0 : Nat) (k : Nat) (W : World) : Prop :=
  W.cell? ⟨B0 + 1, 0, none⟩ = some (.int .i64 ((l.length - 1 - k : Nat) : Int)) ∧ (∀ i (h : i < l.length), l.length - k ≤ i → rd p l[i] = 0) ∧ ∀ (h : l.length - 1 - k < l.length), rd p l[l.length - 1 - k] ≠ 0

/-! A region that draws its order and ends with a few operations in one forced order, in a round. -/
open Go.BigFrame in
theorem regionIn_tail {P : Program} {C : World → Prop} {id L m : Nat} {Q : Exit → Act → World → Prop} {a : Act} {w : World} {l : List Oper} (n : Nat) (hm : P.follows .mixedOrders = true) (hd : noDefer l.toArray = true) (hQ : ¬ LetsOut Q)
    (hB : Region.lexTailB .any l.toArray n = true) (hC : C w.drew)
    (h : wpQuiet P l.toArray C (fun a' => ∀ w', C w' → wpList P l.toArray Q (l.drop n) a' w') (l.take n) a) : (Code.region id l.toArray true).wpIn (Fence.wide.inRound L) m P Q a w := by
  simp only [Region.lexTailB, Bool.and_eq_true, decide_eq_true_eq] at hB
  obtain ⟨⟨⟨⟨hsel, hn⟩, hs⟩, hc⟩, hlex⟩ := hB
  have hn' : n < l.length := by simpa using hn
  have htl : (l.take n).length = n := by simp; omega
  have hdl : (l.drop n).length = l.toArray.size - n := by simp
  have inv0 : HeadInv .any l.toArray n (Array.replicate l.toArray.size false) :=
    ⟨by simp, fun j oj _ hl => (by rw [getD_replicate_false] at hl; cases hl), fun t _ ht => getD_in (by simpa using ht) (getD_replicate_false _ _)⟩
  have H := anyT_lex (md := .any) (g := l.toArray.size - n) hsel hs hc hn (l.take n) 0 _ a
    (fun j hj => by rw [htl] at hj; simp [hj]) (by simpa using htl) inv0 (by rw [htl]; exact hlex) h
  refine wpIn_region_any hm (anyIn_of_any hd hQ _ _ _ _ ?_)
  have H2 := anyT_any (Q := Q) (g := l.toArray.size - n) (fun listed a' w' hw' hL => by
    have h3 := wpAny_of_seq (md := .any) (Q' := Q) (l.drop n) n listed a' w' (fun j => by simp [List.getElem?_drop]) (by rw [hdl]; exact hL.1) (hL.2 w' hw')
    rwa [hdl] at h3) _ _ _ _ hC H
  rw [htl, show n + (l.toArray.size - n) = l.toArray.size by omega] at H2
  exact H2
open Go.BigFrame in
theorem wpIn_region_nwt {P : Program} {id L m : Nat} {Q : Exit → Act → World → Prop} {a : Act} {w : World} {q : NwAt w} {l : List Oper} (n : Nat) (hm : P.follows .mixedOrders = true) (hd : noDefer l.toArray = true) (hQ : ¬ LetsOut Q) (hB : Region.lexTailB .any l.toArray n = true)
    (h : wpQuiet P l.toArray (fun w' => ∃ q : NwAt w, w' = q.out) (fun a' => ∀ w', (∃ q : NwAt w, w' = q.out) → wpList P l.toArray Q (l.drop n) a' w') (l.take n) a) : (Code.region id l.toArray true).wpIn (Fence.wide.inRound L) m P Q a q.out :=
  regionIn_tail (C := fun w' => ∃ q : NwAt w, w' = q.out) n hm hd hQ hB q.drew h
theorem fromIn_here {F : Fence} {m : Nat} {P : Program} {c : Code} {Q : Exit → Act → World → Prop} {a : Act} {W : World} (h : ∀ q : NwAt W, c.wpIn F m P Q a q.out) : c.wpIn F m P Q a W := h ⟨W, Nw.refl _ _⟩

/-- The value by Horner's rule, from the last coefficient on. -/
def evh (p : Int) (l : List Int) (x : Int) : Nat → Int
  | 0 => 0
  | k + 1 => ad p (ml p (evh p l x k) x) (l.getD (l.length - 1 - k) 0)
instance evh_u {p x : Int} {l : List Int} : ∀ {k : Nat}, U (evh p l x k)
  | 0 => show U 0 from inferInstance
  | _ + 1 => show U (ad p _ _) from inferInstance
theorem evh_ph {p : Int} (hk : known p = true) (l : List Int) (x : Int) : ∀ k, k ≤ l.length → ph p (evh p l x k) = Po.ev (fun i => pf p l (l.length - k + i)) (ph p x) k := by
  intro k
  induction k with
  | zero => intro _; exact ph_zero hk
  | succ k ih =>
    intro h
    rw [evh, ph_ad hk, ph_ml hk, ih (by omega), Po.ev]
    have e : Po.tl (fun i => pf p l (l.length - (k + 1) + i)) = fun i => pf p l (l.length - k + i) := funext fun i => by
      show pf p l (l.length - (k + 1) + (i + 1)) = _
      congr 1; omega
    rw [e, show l.length - 1 - k = l.length - (k + 1) + 0 by omega]
    show _ + pf p l _ = _
    grind
theorem evh_end {p : Int} (l : List Int) (x : Int) : evh p l x l.length = ival p (Po.ev (pf p l) (ph p x) l.length) := by
  refine ival_of (fun hk => ⟨?_, ?_⟩) fun hk => ?_
  · cases l.length with
    | zero => have := known_lo hk; exact ⟨by show (0 : Int) ≤ 0; omega, by show (0 : Int) < p; omega⟩
    | succ n => exact ad_bd hk _ _
  · rw [evh_ph hk l x _ (Nat.le_refl _)]
    congr 1
    funext i
    simp
  · cases l.length with
    | zero => rfl
    | succ n => show ad p _ _ = 0; rw [ad, hk]; rfl

/-- Between two rounds of Eval. -/
def EvI (p x : Int) (l : List Int) (v : Value) (B0 : Nat) (k : Nat) (W : World) : Prop :=
  W.cell? ⟨B0, 0, none⟩ = some (.int .u64 p) ∧ W.cell? ⟨B0 + 1, 0, none⟩ = some (.int .u64 x) ∧ W.cell? ⟨B0 + 1 + 1, 0, none⟩ = some (.int .u64 (evh p l x k)) ∧ W.frozen? ⟨B0 + 1 + 1, 0, none⟩ = false ∧ W.cell? ⟨B0 + 1 + 1 + 1, 0, none⟩ = some v

end Go.Proofs.Ytnmbggdfcgbniaa

namespace Go.Proofs.Ytnmbggdfcgbniaa
open Go.RowKit

theorem empty_own (W : World) (base : Nat) (hb : base ≤ W.heap.size) : Own (W.alloc (.cells #[] 22)) base (.slice (some ⟨W.heap.size, 0, none⟩) 0 0) [] :=
  ⟨World.ownsRow_made W #[] 0 hb (by unfold maxLen; omega) rfl, us_nil⟩

/-- trim, in the memory of its argument. -/
def Trimmed (p : Int) (base : Nat) (v : Value) (l : List Int) (w : World) (e : Ending) (w' : World) : Prop :=
  ∃ v', e = .returned v' ∧ v'.ownBlock = v.ownBlock ∧ Own w' base v' (cut0 (l.map (rd p))) ∧ w.grownBy w' v.ownBlock

/-- The first k elements reduced. -/
def redK (p : Int) (l : List Int) (k : Nat) : List Int := (l.take k).map (rd p) ++ l.drop k
theorem redK_len (p : Int) (l : List Int) (k : Nat) : (redK p l k).length = l.length := by simp [redK]; omega
theorem redK_at {p : Int} {l : List Int} {k : Nat} (h : k < l.length) : (redK p l k)[k]? = some l[k] := by
  rw [redK, List.getElem?_append_right (by simp; omega)]
  simp [List.length_take, Nat.min_eq_left (Nat.le_of_lt h), h]
theorem redK_set {p : Int} {l : List Int} {k : Nat} (h : k < l.length) : (redK p l k).set k (rd p l[k]) = redK p l (k + 1) := by
  have h1 : ((l.take k).map (rd p)).length = k := by simp; omega
  rw [redK, List.set_append_right _ _ (by omega), h1, Nat.sub_self, redK, take_snoc h, List.map_append, List.append_assoc, List.drop_eq_getElem_cons h]
  rfl
theorem redK_end (p : Int) (l : List Int) : redK p l l.length = l.map (rd p) := by simp [redK]
theorem rd_rd (p x : Int) : rd p (rd p x) = rd p x := by
  by_cases hk : known p = true
  · rw [rd, if_pos hk, rd, if_pos hk, Int.emod_emod]
  · rw [rd, if_neg hk, rd, if_neg hk]
theorem cut0_take (l : List Int) : l.take (cut0 l).length = cut0 l := by
  refine snoc_induct (P := fun l => l.take (cut0 l).length = cut0 l) rfl ?_ l
  intro m x ih
  by_cases hx : x = 0
  · subst hx
    rw [cut0_snoc_zero, List.take_append_of_le_length (cut0_len m)]; exact ih
  · rw [cut0_snoc m hx, List.take_length]

end Go.Proofs.Ytnmbggdfcgbniaa

namespace Go.Proofs.Ytnmbggdfcgbniaa
open Go.RowKit Go.BigFrame

/-- With zeros at the end, up to n elements. -/
def extL (l : List Int) (n : Nat) : List Int := l ++ List.replicate (n - l.length) 0
theorem extL_len (l : List Int) (n : Nat) : (extL l n).length = max l.length n := by simp [extL]; omega
theorem extL_getD (l : List Int) (n i : Nat) : (extL l n).getD i 0 = l.getD i 0 := by
  rcases Nat.lt_or_ge i l.length with h | h
  · rw [getD_lt _ h, getD_lt _ (by rw [extL_len]; omega)]
    simp [extL, List.getElem_append_left h]
  · rw [getD_ge l h]
    rcases Nat.lt_or_ge i (extL l n).length with h2 | h2
    · rw [getD_lt _ h2]
      simp [extL, List.getElem_append_right h]
    · rw [getD_ge _ h2]
theorem Own.exact {w : World} {base g n : Nat} {l : List Int} (h : Own w base (.slice (some ⟨g, 0, none⟩) n n) l) : w.heap[g]? = some (.cells (vs l).toArray 22 (0, 0)) := by
  obtain rfl := h.len
  rcases h.row.2 with ⟨e, _⟩ | ⟨g', cap, cur, e, hb, hg, hn, hm, hs, ht⟩
  · cases e
  · obtain ⟨rfl, rfl⟩ : g = g' ∧ l.length = cap := by simp at e; exact e
    rw [hg, ← ht, List.take_of_length_le (by simp; omega)]
theorem own_of {w : World} {base g : Nat} {l : List Int} (hb : base ≤ g) (hg : w.heap[g]? = some (.cells (vs l).toArray 22 (0, 0))) (hl : l.length ≤ 1000000) (hu : Us l) : Own w base (.slice (some ⟨g, 0, none⟩) l.length l.length) l :=
  ⟨⟨by rw [vs_len]; omega, .inr ⟨g, l.length, _, rfl, hb, hg, Nat.le_refl _, by unfold maxLen; omega, by simp [vs], by rw [Nat.mul_one]; exact List.take_of_length_le (by simp [vs])⟩⟩, hu⟩

theorem splice_vs (l : List Int) (m : Nat) : splice (vs (List.replicate m 0)) 0 (vs l) = vs (extL l m) := by
  simp [splice, vs, extL]
theorem copy_src {w : World} {a0 : Option Addr} {c0 : Nat} {l : List Int} (h : Lst w (.slice a0 l.length c0) l) (hp : 0 < (vs l).length) : ∃ ad, a0 = some ad ∧ ∀ (j : Nat) (v : Value), (vs l)[j]? = some v → w.cell? (ad.add j) = some v := by
  rw [vs_len] at hp
  obtain ⟨b, o, c, e, _⟩ := h.cells 0 hp
  obtain ⟨rfl, rfl⟩ : a0 = some ⟨b, o, none⟩ ∧ c0 = c := by simp at e; exact e
  refine ⟨_, rfl, fun j v hj => ?_⟩
  have hjn : j < l.length := by have := (List.getElem?_eq_some_iff.1 hj).1; rwa [vs_len] at this
  rw [vs_at hjn] at hj
  cases hj
  obtain ⟨b1, o1, c1, e1, h1⟩ := h.cells j hjn
  cases e1
  rw [Go.WideShapes.add_plain]
  exact h1

/-- k elements from o on replaced. -/
def updK (f : Nat → Int) (L : List Int) (o k : Nat) : List Int := (List.range L.length).map fun i => if o ≤ i ∧ i < o + k then f i else L.getD i 0
theorem updK_len (f : Nat → Int) (L : List Int) (o k : Nat) : (updK f L o k).length = L.length := by simp [updK]
theorem updK_zero (f : Nat → Int) (L : List Int) (o : Nat) : updK f L o 0 = L := by
  refine List.ext_getElem (updK_len _ _ _ _) fun i h1 h2 => ?_
  simp only [updK, List.getElem_map, List.getElem_range]
  rw [if_neg (by omega), getD_lt _ h2]
theorem updK_at {f : Nat → Int} {L : List Int} {o k : Nat} (h : o + k < L.length) : (updK f L o k)[o + k]'(by rw [updK_len]; exact h) = L[o + k] := by
  simp only [updK, List.getElem_map, List.getElem_range]
  rw [if_neg (by omega), getD_lt _ h]
theorem updK_set {f : Nat → Int} {L : List Int} {o k : Nat} : (updK f L o k).set (o + k) (f (o + k)) = updK f L o (k + 1) := by
  refine List.ext_getElem (by simp [updK_len]) fun i h1 h2 => ?_
  rw [List.getElem_set]
  simp only [updK, List.getElem_map, List.getElem_range]
  by_cases hi : o + k = i
  · subst hi
    rw [if_pos rfl, if_pos (by omega)]
  · rw [if_neg hi]
    by_cases h3 : o ≤ i ∧ i < o + k
    · rw [if_pos h3, if_pos (by omega)]
    · rw [if_neg h3, if_neg (by omega)]
theorem updK_at0 {f : Nat → Int} {L : List Int} {k : Nat} (h : k < L.length) : (updK f L 0 k)[k]'(by rw [updK_len]; exact h) = L[k] := by
  simp only [updK, List.getElem_map, List.getElem_range]
  rw [if_neg (by omega), getD_lt _ h]
theorem updK_set0 {f : Nat → Int} {L : List Int} {k : Nat} : (updK f L 0 k).set k (f k) = updK f L 0 (k + 1) := by
  have h := updK_set (f := f) (L := L) (o := 0) (k := k)
  simp only [Nat.zero_add] at h
  exact h
theorem updK_getD (f : Nat → Int) (L : List Int) (o k i : Nat) : (updK f L o k).getD i 0 = if i < L.length ∧ o ≤ i ∧ i < o + k then f i else L.getD i 0 := by
  rcases Nat.lt_or_ge i L.length with h | h
  · rw [getD_lt _ (by rw [updK_len]; exact h)]
    simp only [updK, List.getElem_map, List.getElem_range]
    by_cases h3 : o ≤ i ∧ i < o + k
    · rw [if_pos h3, if_pos ⟨h, h3⟩]
    · rw [if_neg h3, if_neg (by omega)]
  · rw [getD_ge _ (by rw [updK_len]; exact h), getD_ge L h, if_neg (by omega)]
/-- What addMultiple leaves. -/
def addL (p m : Int) (L a : List Int) (o : Nat) : Nat → Int := fun i => ad p (L.getD i 0) (ml p (a.getD (i - o) 0) m)

theorem pf_upd {p : Int} (hk : known p = true) {op : Int → Int → Int} {g : Fin (Q p) → Fin (Q p) → Fin (Q p)} (hf : ∀ x y, ph p (op x y) = g (ph p x) (ph p y)) (h0 : ∀ x, g x 0 = x) (a b : List Int) :
    pf p (updK (fun i => op ((extL a b.length).getD i 0) (b.getD i 0)) (extL a b.length) 0 b.length) = fun i => g (pf p a i) (pf p b i) := funext fun i => by
  show ph p _ = g (ph p _) (ph p _)
  rw [updK_getD]
  have hl : b.length ≤ (extL a b.length).length := by rw [extL_len]; omega
  rcases Nat.lt_or_ge i b.length with h | h
  · rw [if_pos (by omega), hf, extL_getD]
  · rw [if_neg (by omega), extL_getD, getD_ge b h, ph_zero hk, h0]

theorem pf_zeros {p : Int} (hk : known p = true) (n : Nat) : pf p (List.replicate n 0) = Po.ze := funext fun i => by
  show ph p _ = 0
  rcases Nat.lt_or_ge i n with h | h
  · rw [getD_lt _ (by simpa using h), List.getElem_replicate, ph_zero hk]
  · rw [getD_ge _ (by simpa using h), ph_zero hk]
theorem pf_addL {p : Int} (hk : known p = true) (m : Int) (L a : List Int) (o : Nat) (h : o + a.length ≤ L.length) :
    pf p (updK (addL p m L a o) L o a.length) = Po.ad (pf p L) (Po.shn o (Po.sc (ph p m) (pf p a))) := funext fun i => by
  show ph p _ = ph p _ + _
  rw [updK_getD]
  rcases Nat.lt_or_ge i o with h1 | h1
  · rw [if_neg (by omega), Po.shn_low _ _ _ h1]; grind
  · obtain ⟨j, rfl⟩ : ∃ j, i = o + j := ⟨i - o, by omega⟩
    rw [Po.shn_at]
    show _ = ph p _ + ph p m * ph p _
    rcases Nat.lt_or_ge j a.length with h2 | h2
    · rw [if_pos (by omega)]
      unfold addL
      rw [ph_ad hk, ph_ml hk, show o + j - o = j by omega]
      grind
    · rw [if_neg (by omega), getD_ge a h2, ph_zero hk]; grind

end Go.Proofs.Ytnmbggdfcgbniaa
