/- The walk of package poly's divide. -/
import Derived.Test.YtgdnkbigdggbaaaOE
namespace Go.Proofs.Ytgdnkbigdggbaaa
open Go.RowKit Go.Shelf Go.BigFrame
attribute [local go_sem] Oper.semAt_some

theorem Own.turned {W W' : World} {base : Nat} {v : Value} {l : List Int} {row : Option Nat} (h : Own W base v l) (hg : W.grownBy W' row) (hr : ∀ r, row = some r → ∃ o : Obj, W.heap[r]? = some o ∧ o.isCells = false) : Own W' base v l := by
  refine h.kept hg ?_
  rcases h.row.2 with ⟨e, _⟩ | ⟨g, cap, cur, e, hb, hc, _⟩
  · rw [e]; exact .inl rfl
  · right
    intro h1
    rw [e] at h1
    obtain ⟨o, ho, hn⟩ := hr g h1.symm
    rw [hc] at ho
    cases ho
    cases hn
theorem Lst.turned {W W' : World} {v : Value} {l : List Int} {row : Option Nat} (h : Lst W v l) (hg : W.grownBy W' row) (hr : ∀ r, row = some r → ∃ o : Obj, W.heap[r]? = some o ∧ o.isCells = false) : Lst W' v l :=
  ⟨h.form, fun i hi => by obtain ⟨b, o, c, e, hc⟩ := h.cells i hi; exact ⟨b, o, c, e, cell_kept hc hg hr⟩, h.us, h.room⟩
theorem grown_past {w a b : World} {row row' : Option Nat} (h : w.grownBy a row) (k : a.grownBy b row') (hr : ∀ r, row' = some r → w.heap.size ≤ r) : w.grownBy b row :=
  ⟨k.os.trans h.os, k.tape.trans h.tape, k.output.trans h.output, Nat.le_trans h.size k.size, fun i hi hn => (k.block i (Nat.lt_of_lt_of_le hi h.size) (by intro e; have := hr i e.symm; omega)).trans (h.block i hi hn)⟩

/-- What lies there between two rounds of divide. -/
structure DvP (p inv : Int) (Bl : List Int) (N : Nat) (w : World) (base : Nat) (a0 : Option Addr) (c0 : Nat) (vb : Value) (h BQ BI BS M : Nat) (W : World) (q a : List Int) : Prop where
  cf : W.cell? ⟨w.heap.size, 0, none⟩ = some (.int .u64 p)
  ca : W.cell? ⟨w.heap.size + 1, 0, none⟩ = some (.slice a0 M c0)
  cz : W.frozen? ⟨w.heap.size + 1, 0, none⟩ = false
  cb : W.cell? ⟨w.heap.size + 1 + 1, 0, none⟩ = some vb
  cq : W.cell? ⟨BQ, 0, none⟩ = some (.slice (some ⟨h, 0, none⟩) N N)
  ci : W.cell? ⟨BI, 0, none⟩ = some (.int .u64 inv)
  cs : W.cell? ⟨BS, 0, none⟩ = some (.slice (some ⟨h, 0, none⟩) N N)
  oa : Own W base (.slice a0 M c0) a
  oq : Own W h (.slice (some ⟨h, 0, none⟩) N N) q
  lb : Lst W vb Bl
  g : w.grownBy W (Value.slice a0 M c0).ownBlock
/-- Which memory is which. -/
structure DvA (w : World) (a0 : Option Addr) (c0 : Nat) (vb : Value) (Bl : List Int) (h BQ BI BS : Nat) : Prop where
  hh : h = w.heap.size + 3
  bq : h < BQ
  bi : h < BI
  bs : h < BS
  aw : ∀ M r, (Value.slice a0 M c0).ownBlock = some r → r < w.heap.size
  bw : 0 < Bl.length → ∀ r, vb.ownBlock = some r → r < w.heap.size
  ab : ∀ M r, (Value.slice a0 M c0).ownBlock = some r → vb.ownBlock ≠ some r
theorem own_block_len (a0 : Option Addr) (M M' c0 : Nat) : (Value.slice a0 M c0).ownBlock = (Value.slice a0 M' c0).ownBlock := by cases a0 <;> rfl
section
variable {p inv : Int} {Bl : List Int} {N : Nat} {w : World} {base : Nat} {a0 : Option Addr} {c0 : Nat} {vb : Value} {h BQ BI BS M : Nat} {W : World} {q a : List Int}
theorem DvP.nw {W' : World} (d : DvP p inv Bl N w base a0 c0 vb h BQ BI BS M W q a) (k : Nw W.heap.size W W') : DvP p inv Bl N w base a0 c0 vb h BQ BI BS M W' q a :=
  ⟨k.hold d.cf, k.hold d.ca, (k.f _).trans d.cz, k.hold d.cb, k.hold d.cq, k.hold d.ci, k.hold d.cs, d.oa.hold k.b, d.oq.hold k.b, d.lb.hold k.b, grown_next d.g k.b⟩
theorem DvP.setq (hA : DvA w a0 c0 vb Bl h BQ BI BS) (d : DvP p inv Bl N w base a0 c0 vb h BQ BI BS M W q a) (n : Nat) (c : Int) [U c] : DvP p inv Bl N w base a0 c0 vb h BQ BI BS M (W.setCell ⟨h, n, none⟩ (.int .u64 c)) (q.set n c) a := by
  have hs := d.oq.set n c
  have hw := hA.hh
  have e1 := hA.bq
  have e2 := hA.bi
  have e3 := hA.bs
  have far : ∀ {x : Addr} {v : Value}, x.block ≠ h → W.cell? x = some v → (W.setCell ⟨h, n, none⟩ (.int .u64 c)).cell? x = some v := fun hx hv => (World.cell?_setCell_far _ _ _ _ (Ne.symm hx)).trans hv
  refine ⟨far (by show w.heap.size ≠ h; omega) d.cf, far (by show w.heap.size + 1 ≠ h; omega) d.ca, (World.frozen?_setCell _ _ _ _).trans d.cz, far (by show w.heap.size + 1 + 1 ≠ h; omega) d.cb, far (by show BQ ≠ h; omega) d.cq, far (by show BI ≠ h; omega) d.ci, far (by show BS ≠ h; omega) d.cs,
    d.oa.kept hs.2 (.inr fun e => ?_), hs.1, d.lb.kept hs.2 (fun hl e => ?_), grown_past d.g hs.2 (fun r e => by cases e; omega)⟩
  · have := hA.aw _ _ e; omega
  · have := hA.bw hl _ e; omega
theorem DvP.adda {W' : World} {g : Nat} {a' : List Int} (hA : DvA w a0 c0 vb Bl h BQ BI BS) (hg : (Value.slice a0 M c0).ownBlock = some g) (d : DvP p inv Bl N w base a0 c0 vb h BQ BI BS M W q a) (k : W.grownBy W' (some g)) (oa' : Own W' base (.slice a0 M c0) a') :
    DvP p inv Bl N w base a0 c0 vb h BQ BI BS M W' q a' := by
  have hgw := hA.aw _ _ hg
  have hw := hA.hh
  have e1 := hA.bq
  have e2 := hA.bi
  have e3 := hA.bs
  have ne : ∀ {r : Nat}, g < r → some r ≠ some g := fun h e => by cases e; omega
  refine ⟨grown_cell k d.cf (ne hgw), grown_cell k d.ca (ne (by show g < w.heap.size + 1; omega)), (World.frozen?_of_block (k.block _ (World.block_lt_of_cell? _ _ d.ca) (ne (by show g < w.heap.size + 1; omega)))).trans d.cz, grown_cell k d.cb (ne (by show g < w.heap.size + 1 + 1; omega)), grown_cell k d.cq (ne (by show g < BQ; omega)), grown_cell k d.ci (ne (by show g < BI; omega)), grown_cell k d.cs (ne (by show g < BS; omega)),
    oa', d.oq.kept k (.inr fun e => ?_), d.lb.kept k (fun _ => hA.ab _ _ hg), ?_⟩
  · have h2 : h = g := Option.some.inj e
    omega
  · have h2 := d.g
    rw [hg] at h2 ⊢
    exact grown_trans h2 k
theorem DvP.cut {g : Nat} (hA : DvA w (some ⟨g, 0, none⟩) c0 vb Bl h BQ BI BS) (d : DvP p inv Bl N w base (some ⟨g, 0, none⟩) c0 vb h BQ BI BS M W q a) {t : Nat} (ht : t ≤ M) :
    DvP p inv Bl N w base (some ⟨g, 0, none⟩) c0 vb h BQ BI BS t (W.setCell ⟨w.heap.size + 1, 0, none⟩ (.slice (some ⟨g, 0, none⟩) t c0)) q (a.take t) := by
  have hgw := hA.aw 0 g rfl
  have hw := hA.hh
  have e1 := hA.bq
  have e2 := hA.bi
  have e3 := hA.bs
  have hs : W.grownBy (W.setCell ⟨w.heap.size + 1, 0, none⟩ (.slice (some ⟨g, 0, none⟩) t c0)) (some (w.heap.size + 1)) := grownBy_setCell' _ _ _
  have far : ∀ {x : Addr} {v : Value}, x.block ≠ w.heap.size + 1 → W.cell? x = some v → (W.setCell ⟨w.heap.size + 1, 0, none⟩ (.slice (some ⟨g, 0, none⟩) t c0)).cell? x = some v := fun hx hv => (World.cell?_setCell_far _ _ _ _ (Ne.symm hx)).trans hv
  refine ⟨far (by show w.heap.size ≠ _; omega) d.cf, World.cell?_setCell_same _ _ _ d.ca, (World.frozen?_setCell _ _ _ _).trans d.cz, far (by show w.heap.size + 1 + 1 ≠ _; omega) d.cb, far (by show BQ ≠ _; omega) d.cq, far (by show BI ≠ _; omega) d.ci, far (by show BS ≠ _; omega) d.cs,
    (d.oa.kept hs (.inr fun e => ?_)).take ht, d.oq.kept hs (.inr fun e => ?_), d.lb.kept hs (fun hl e => ?_), grown_past d.g hs (fun r e => by cases e; omega)⟩
  · have h2 : g = w.heap.size + 1 := Option.some.inj e
    omega
  · have h2 : h = w.heap.size + 1 := Option.some.inj e
    omega
  · have := hA.bw hl _ e; omega
end
/-- Between two rounds. -/
def DvS (p inv : Int) (A Bl : List Int) (N : Nat) (w : World) (base : Nat) (a0 : Option Addr) (c0 : Nat) (vb : Value) (h BQ BI BS k : Nat) (W : World) : Prop :=
  ∃ q a, DvP p inv Bl N w base a0 c0 vb h BQ BI BS (A.length - k) W q a ∧ DivM p A Bl N k q a
theorem dvS_own {p inv : Int} {A Bl : List Int} {N : Nat} {w : World} {base : Nat} {a0 : Option Addr} {c0 : Nat} {vb : Value} {h BQ BI BS B : Nat} (hB : w.heap.size ≤ B) :
    OwnFrom B (fun k W => DvS p inv A Bl N w base a0 c0 vb h BQ BI BS k W) := fun k W W' row ⟨q, a, d, m⟩ hg hr => by
  have hr' := fun r e => (hr r e).2
  exact ⟨q, a, ⟨cell_kept d.cf hg hr', cell_kept d.ca hg hr', (frozen_kept d.ca hg hr').trans d.cz, cell_kept d.cb hg hr', cell_kept d.cq hg hr', cell_kept d.ci hg hr', cell_kept d.cs hg hr',
    d.oa.turned hg hr', d.oq.turned hg hr', d.lb.turned hg hr', grown_past d.g hg (fun r e => Nat.le_trans hB (hr r e).1)⟩, m⟩
/-- What lies from block B on is as it was. -/
def HighK (B : Nat) (W w' : World) : Prop := ∀ (a : Addr) (v : Value), B ≤ a.block → W.cell? a = some v → w'.cell? a = some v
theorem HighK.refl (B : Nat) (W : World) : HighK B W W := fun _ _ _ h => h
theorem HighK.drew {B : Nat} {W w' : World} (h : HighK B W w') : HighK B W w'.drew := fun a v hb hv => h a v hb hv
theorem nameIn_world {F : Fence} {m : Nat} {P : Program} {c : Code} {Q : Exit → Act → World → Prop} {a : Act} {w : World} (h : ∀ W, W = w → c.wpIn F m P Q a W) : c.wpIn F m P Q a w := h w rfl
theorem keep_one {X w2 : World} {u0 : Value} {t : TypeId} (h : Nw (X.alloc (.cells #[u0] t)).heap.size (X.alloc (.cells #[u0] t)) w2) :
    w2.cell? ⟨X.heap.size, 0, none⟩ = some u0 ∧ w2.frozen? ⟨X.heap.size, 0, none⟩ = false :=
  ⟨h.hold (by go_simp), h.holdf (by go_simp)⟩
/-- A quotient in new memory, a remainder in the memory of the dividend. -/
def Halves (p : Int) (base : Nat) (va : Value) (A Bl : List Int) (w : World) (e : Ending) (w' : World) : Prop :=
  ∃ v1 v2 r1 r2, e = .returned (.tuple #[v1, v2]) ∧ Own w' w.heap.size v1 r1 ∧ Own w' base v2 r2 ∧ v2.ownBlock = va.ownBlock ∧ w.grownBy w' va.ownBlock ∧
    (∃ u r, Is p r1 u ∧ Is p r2 r ∧ Po.DivOf (pf p A) (pf p Bl) u r) ∧ r1.length ≤ A.length ∧ r2.length ≤ A.length ∧ r2.length < Bl.length

set_option maxRecDepth 100000 in
set_option maxHeartbeats 8000000 in
theorem divide_w (p : Int) [hpU : U p] (hk : known p = true) (base : Nat) (va vb : Value) (A Bl : List Int) (m : Nat) (bm : Int) (w : World) (hoa : Own w base va A) (hlb : Lst w vb Bl) (hoff : va.ownBlock = none ∨ vb.ownBlock ≠ va.ownBlock)
    (hA : NF p A) (hBl : Bl.length = m + 1) (hbg : Bl.getD m 0 = bm) (hbm : bm % p ≠ 0) (hna : A.length ≤ 500) (hnb : Bl.length ≤ 500) :
    Calls Try.prog 59 #[.agg #[.int .u64 p], va, vb] w (Halves p base va A Bl w) := by
  obtain ⟨a0, c0, rfl⟩ := hoa.lst.shape
  obtain ⟨a1, c1, rfl⟩ := hlb.shape
  have HA := Lib.hid hoa
  have HL := Lib.hid hlb
  have HK := Lib.hid (And.intro hk (And.intro hA (And.intro hbm hoff)))
  have hub : U bm := by rw [← hbg, getD_lt _ (by omega)]; exact hlb.us Bl[m] (List.getElem_mem (by omega))
  obtain ⟨N, hN⟩ : ∃ N, N = A.length - m := ⟨_, rfl⟩
  have HN := Lib.hid hN
  have hbl1 : (Bl.length : Int) ≤ 500 := by omega
  have hbl2 : (A.length : Int) ≤ 500 := by omega
  have HM := Lib.hid (And.intro hBl hbg)
  clear hoa hlb hoff hA hk hbm hN hbg hBl
  refine (callsIn_wide (n := 3)).1 ?_
  refine callsIn_of_wp_marks Try.func59 rfl trivial ?_ rfl
  refine wpIn_wide.2 ?_
  simp only [Try.ntmps59, List.size_toArray, List.length_cons, List.length_nil, Nat.reduceAdd, Nat.reduceSub, Array.replicate_succ, Array.replicate_zero, List.push_toArray, List.append_toArray, List.nil_append, List.cons_append]
  go_upto_region 1 with fail
  refine name_world ?_
  intro W hW
  have hb : Below w.heap.size w W := by rw [hW]; exact Below.made (by simp) (Below.made (by simp) (Below.made (Nat.le_refl _) (Below.refl _ _) _) _) _
  have z0 : W.cell? ⟨w.heap.size, 0, none⟩ = some (.int .u64 p) := by rw [hW]; go_simp
  have z1 : W.cell? ⟨w.heap.size + 1, 0, none⟩ = some (.slice a0 A.length c0) := by rw [hW]; go_simp
  have z2 : W.frozen? ⟨w.heap.size + 1, 0, none⟩ = false := by rw [hW]; go_simp
  have z3 : W.cell? ⟨w.heap.size + 1 + 1, 0, none⟩ = some (.slice a1 Bl.length c1) := by rw [hW]; go_simp
  have hsz : W.heap.size = w.heap.size + 3 := by rw [hW]; simp
  have HB := Lib.hid (And.intro hb hsz)
  clear hW hb hsz
  go_cut [8] from 12 to 65 (fun s8 wx => ∃ BQ, s8 = .pointer (some ⟨BQ, 0, none⟩) ∧ W.heap.size < BQ ∧ wx.cell? ⟨BQ, 0, none⟩ = some (.slice (some ⟨W.heap.size, 0, none⟩) N N) ∧ Own wx W.heap.size (.slice (some ⟨W.heap.size, 0, none⟩) N N) (List.replicate N 0) ∧ Below W.heap.size W wx)
  case first =>
    by_cases hc : m < A.length
    · have f1 : (A.length : Int) - (Bl.length : Int) + 1 = (N : Int) := by have := HN.out; have := HM.out.1; omega
      have f2 : (0 : Int) < (N : Int) := by have := HN.out; omega
      have f3 : (N : Int) ≤ 500 := by have := HN.out; omega
      go_wp2_with (at_make; refine make_zeros rfl (.tmp 18) (.tmp 18) rfl W.heap.size N rfl rfl (by omega) (Nat.le_refl _) ?_; intro v1 w1 hown1 hv1 hb1; subst hv1)
      go_meet
      exact ⟨_, rfl, (hown1.row.lt W.heap.size rfl).2, by go_simp, hown1.hold (Below.made (Nat.le_refl _) (Below.refl _ _) _), Below.made (Nat.le_refl _) hb1 _⟩
    · obtain rfl : N = 0 := by have := HN.out; omega
      obtain ⟨d, hd⟩ : ∃ d : Nat, d = m - A.length := ⟨_, rfl⟩
      have f1 : (A.length : Int) - (Bl.length : Int) + 1 = -(d : Int) := by have := HM.out.1; omega
      have f2 : (-(d : Int) < 0) ∨ d = 0 := by omega
      have f3 : (d : Int) ≤ 500 := by have := HM.out.1; omega
      clear hd hc
      rcases f2 with f2 | rfl
      all_goals
        go_wp2_with (at_make; refine make_zeros rfl (.tmp 18) (.tmp 18) rfl W.heap.size 0 rfl rfl (by omega) (Nat.le_refl _) ?_; intro v1 w1 hown1 hv1 hb1; subst hv1)
        go_meet
        exact ⟨_, rfl, (hown1.row.lt W.heap.size rfl).2, by go_simp, hown1.hold (Below.made (Nat.le_refl _) (Below.refl _ _) _), Below.made (Nat.le_refl _) hb1 _⟩
  case rest =>
    rename World => wx
    obtain ⟨BQ, rfl, hBQ, hq, hoq, hbx⟩ := hcut
    have hbw := Below.next (Nat.le_refl _) HB.out.1 hbx
    have y0 := Below.hold hbx z0
    have y1 := Below.hold hbx z1
    have y2 := (hbx.frozen (p := ⟨w.heap.size + 1, 0, none⟩) (by show w.heap.size + 1 < _; have := HB.out.2; omega)).trans z2
    have y3 := Below.hold hbx z3
    have hBQ2 := World.block_lt_of_cell? _ _ hq
    have hbl0 : m < Bl.length := by have := HM.out.1; omega
    obtain ⟨bb, ob, cb, e, hcb⟩ := (HL.out.hold hbw).cells m hbl0
    obtain ⟨rfl, rfl⟩ : a1 = some ⟨bb, ob, none⟩ ∧ c1 = cb := by simp at e; exact e
    have hbg : Bl[m] = bm := by have := HM.out.2; rwa [getD_lt _ hbl0] at this
    rw [hbg] at hcb
    have hbl3 : (Bl.length : Int) - 1 = (m : Int) := by have := HM.out.1; omega
    have hbl4 : (m : Int) < (Bl.length : Int) := by omega
    have hbl5 : (0 : Int) ≤ (m : Int) := by omega
    have hbl6 : IntKind.i64.wrap (m : Int) = (m : Int) := by rw [IntKind.wrap_i64]; omega
    have HO := Lib.hid (And.intro hoq (And.intro hbw (And.intro hBQ hBQ2)))
    clear z0 z1 z2 z3 hoq hbx hbw hBQ hBQ2 e hbl0 hbg
    go_upto_region 2 with fail
    go_cut [9] from 12 to 65 (fun s9 wy => ∃ BI, s9 = .pointer (some ⟨BI, 0, none⟩) ∧ wx.heap.size ≤ BI ∧ wy.cell? ⟨BI, 0, none⟩ = some (.int .u64 (iv p bm)) ∧ Nw wx.heap.size wx wy)
    case first =>
      have k0 := fun (w' : World) (h : Nw wx.heap.size wx w') => h.hold y0
      have k1 := fun (w' : World) (h : Nw wx.heap.size wx w') => h.hold y3
      have k2 := fun (w' : World) (h : Nw wx.heap.size wx w') => h.hold hcb
      have F := Nw.refl wx.heap.size wx
      clear y0 y1 y2 y3 hcb hq
      go_region_held3 (fun w' => Nw wx.heap.size wx w')
        (first | assumption | (repeat (first | assumption | exact Nw.refl _ _ | refine Nw.drew ?_ | refine Nw.drewN ?_ _ | refine Nw.set ?_ (by first | omega | (simp; done) | (simp; omega)) _ | refine Nw.made (Nat.le_refl _) ?_ _ _ | refine Nw.next (Nat.le_refl _) ?_ (by assumption))))
        (first | (go_at_call 62; refine (fInv_u _ _ _).mono ?_; rintro _ w2 ⟨rfl, hb2⟩; (try (have FG := keep_one (Nw.next (Nat.le_refl _) ((Nw.refl _ _).drew) hb2); obtain ⟨F1, G1⟩ := FG))))
      all_goals
        go_wp2_with fail
        go_meet
        exact ⟨_, rfl, by first | exact Nat.le_refl _ | (have := hb2.b.size; simpa using this), by first | (go_simp; done) | exact World.cell?_setCell_same _ _ _ F1, by assumption⟩
    case rest =>
      rename World => wy
      obtain ⟨BI, rfl, hBI, hci, hny⟩ := hcut
      have w0 := hny.hold y0
      have w1 := hny.hold y1
      have w2 := (hny.f _).trans y2
      have w3 := hny.hold y3
      have w4 := hny.hold hq
      have hby := Below.next (Nat.le_refl _) HO.out.2.1 hny.b
      have HY := Lib.hid (And.intro hBI (And.intro hny hby))
      have hBIy := World.block_lt_of_cell? _ _ hci
      clear y0 y1 y2 y3 hq hBI hny hby hcb
      have HV := Lib.hid (show ∃ a m c, Value.slice (some ⟨W.heap.size, 0, none⟩) N N = .slice a m c from ⟨_, _, _, rfl⟩)
      go_wp2_with (go_at_call 46; refine (back_any _ HV.out _).mono ?_; rintro e w5 ⟨rfl, rfl⟩)
      refine name_world ?_
      intro W5 hW5
      have h5 : Nw wy.heap.size wy W5 := by rw [hW5]; exact (Nw.refl _ _).made (Nat.le_refl _) _ _
      have x0 := h5.hold w0
      have x1 := h5.hold w1
      have x2 := (h5.f _).trans w2
      have x3 := h5.hold w3
      have x4 := h5.hold w4
      have x5 := h5.hold hci
      have x6 : W5.cell? ⟨wy.heap.size, 0, none⟩ = some (.slice (some ⟨W.heap.size, 0, none⟩) N N) := by rw [hW5]; go_simp
      have hs5 : W5.heap.size = wy.heap.size + 1 := by rw [hW5]; simp
      have hb5 := Below.next (Nat.le_refl _) HY.out.2.2 h5.b
      have hoq5 := (HO.out.1.hold HY.out.2.1.b).hold h5.b
      clear w0 w1 w2 w3 w4 hci hW5 h5
      have hAp : DvA w a0 c0 (.slice (some ⟨bb, ob, none⟩) Bl.length c1) Bl W.heap.size BQ BI wy.heap.size := by
        have h1 := HO.out.2.2.1
        have h2 := HO.out.2.2.2
        have h3 := HY.out.1
        have h4 := HY.out.2.1.b.size
        refine ⟨HB.out.2, h1, by omega, by omega, fun M r e => (HA.out.row.lt r (by rw [← e]; exact own_block_len _ _ _ _)).2, fun hl r e => HL.out.lt hl e, fun M r e => ?_⟩
        rcases HK.out.2.2.2 with h | h
        · rw [own_block_len a0 A.length M c0, e] at h; cases h
        · rw [own_block_len a0 A.length M c0, e] at h; exact h
      have HP := Lib.hid hAp
      clear hAp
      refine (wpIn_wide (n := 3)).1 ?_
      refine back_loop (F := Fence.wide) (n := 3) rfl (by omega) trivial (Bs := wy.heap.size) (N := N) (v := .slice (some ⟨W.heap.size, 0, none⟩) N N) rfl ⟨_, _, rfl⟩ (by have := HN.out; omega) rfl
        (fun k W' => DvS p (iv p bm) A Bl N w base a0 c0 (.slice (some ⟨bb, ob, none⟩) Bl.length c1) W.heap.size BQ BI wy.heap.size k W') (fun _ _ => False)
        (dvS_own (by have := hb5.size; exact this)) (fun _ _ _ _ hs _ _ => hs)
        ⟨_, A, ⟨x0, x1, x2, x3, x4, x5, x6, HA.out.hold hb5, hoq5, HL.out.hold hb5, grown_below hb5⟩, DivM.start HK.out.1 A Bl N⟩
        (fun k W' h => ?_) ?a1 ?assign ?body ?done ?stop
      · obtain ⟨q, a, d, dm⟩ := h
        refine ⟨d.cs, fun i hi => ?_⟩
        obtain ⟨b, o, c, e, hc⟩ := d.oq.lst.cells i (by rw [dm.lq]; exact hi)
        rw [dm.lq] at e
        exact ⟨b, o, c, _, e, hc⟩
      case assign =>
        intro l x u W K hK
        gi_wp2
        exact hK
      case body =>
        rintro L k b o c u W1 hk ⟨qs, rs, d, dm⟩ he hc
        clear he hc
        have hBl := HM.out.1
        have hNe := HN.out
        obtain ⟨M, hMe⟩ : ∃ M, M = A.length - k := ⟨_, rfl⟩
        obtain ⟨n, hn⟩ : ∃ n, n = N - 1 - k := ⟨_, rfl⟩
        obtain ⟨t, ht⟩ : ∃ t, t = n + m := ⟨_, rfl⟩
        rw [← hMe] at d
        rw [← hn]
        have hal := d.oa.len
        have hql := dm.lq
        have hMt : M = t + 1 := by omega
        obtain ⟨g, rfl⟩ : ∃ g, a0 = some ⟨g, 0, none⟩ := by
          rcases d.oa.cases with ⟨e, e2⟩ | ⟨g, cap, e, _⟩
          · rw [e2] at hal; simp at hal; omega
          · simp at e; exact ⟨g, e.1⟩
        have htl : t < rs.length := by omega
        have hnl : n < qs.length := by omega
        have hca := d.oa.cell htl
        have hua := d.oa.us rs[t] (List.getElem_mem htl)
        have hcq := d.oq.cell hnl
        have hzq := d.oq.thawed n
        obtain ⟨y, hy⟩ : ∃ y, y = rs[t] := ⟨_, rfl⟩
        have hyg : rs.getD t 0 = y := by rw [getD_lt _ htl, hy]
        rw [← hy] at hca hua
        have hcm := d.oa.room
        have i0 : (0 : Int) ≤ (n : Int) := by omega
        have i1 : (n : Int) < (N : Int) := by omega
        have i2 : (n : Int) + (Bl.length : Int) = (t : Int) + 1 := by omega
        have i3 : (t : Int) < (M : Int) := by omega
        have i4 : (0 : Int) ≤ (t : Int) := by omega
        have i5 : (M : Int) ≤ 500 := by omega
        have i6 : (M : Int) ≤ (c0 : Int) := by omega
        have D := Lib.hid (And.intro d dm)
        have HE := Lib.hid (And.intro hBl (And.intro hNe (And.intro hMe (And.intro hn (And.intro ht (And.intro hal (And.intro hql (And.intro hMt hyg))))))))
        have k0 := fun q : NwAt W1 => q.nw.hold d.cf
        have k1 := fun q : NwAt W1 => q.nw.hold d.ca
        have k3 := fun q : NwAt W1 => q.nw.hold d.cq
        have k4 := fun q : NwAt W1 => q.nw.hold d.ci
        have k5 := fun q : NwAt W1 => q.nw.hold hca
        have k6 := fun q : NwAt W1 => q.nw.hold hcq
        have k7 := fun q : NwAt W1 => q.nw.holdf hzq
        have d0 := d.cb
        clear d dm hBl hNe hMe hn ht hal hql hMt hy hyg hca hcq hzq htl hcm x0 x1 x2 x3 x4 x5 x6 hoq5
        gi_wp2_with fail
        refine fromIn_here ?_
        intro q
        refine wpIn_region_nwt 10 (by kernel_rfl) (by kernel_rfl) (by rintro ⟨a, w, h⟩; exact h) (by kernel_rfl) ?_
        simp only [List.take_succ_cons, List.take_zero, List.drop_succ_cons, List.drop_zero]
        repeat (go_big_quiet_step ((first | (go_at_call 55; exact nwAt_of (fMul_u _ _ _ _)))))
        refine wpQuiet_nil ?_
        clear q
        rintro _ ⟨q, rfl⟩
        have j6 := k6 q
        have j7 := k7 q
        clear k0 k1 k3 k4 k5 k6 k7
        go_wp2
        refine nameIn_world ?_
        intro V1 hV1
        have d1 : DvP p (iv p bm) Bl N w base (some ⟨g, 0, none⟩) c0 (.slice (some ⟨bb, ob, none⟩) Bl.length c1) W.heap.size BQ BI wy.heap.size M V1 (qs.set n (ml p y (iv p bm))) rs := by
          rw [hV1]; exact (D.out.1.nw q.nw).setq HP.out n _
        have hv1 : KeepsFrom W5.heap.size W1 V1 := by rw [hV1]; exact (keeps_below q.nw.b).trans (keeps_set _ _ _ _)
        obtain ⟨x, hx⟩ : ∃ x, x = ml p y (iv p bm) := ⟨_, rfl⟩
        rw [← hx] at d1 ⊢
        have hxU : U x := by rw [hx]; infer_instance
        have hcx : V1.cell? ⟨W.heap.size, n, none⟩ = some (.int .u64 x) := by
          have h := d1.oq.cell (i := n) (by rw [List.length_set]; have := HE.out.2.2.2.2.2.2.1; omega)
          rwa [List.getElem_set_self] at h
        have D1 := Lib.hid (And.intro d1 (And.intro hv1 hx))
        have i7 : (n : Int) < (c0 : Int) := by have := HE.out; omega
        have i8 : (n : Int) ≤ (M : Int) := by have := HE.out; omega
        have i9 : ¬ (c0 = n) := by omega
        have k0 := fun q : NwAt V1 => q.nw.hold d1.cf
        have k1 := fun q : NwAt V1 => q.nw.hold d1.ca
        have k2 := fun q : NwAt V1 => q.nw.hold d1.cb
        have k3 := fun q : NwAt V1 => q.nw.hold d1.cq
        have k5 := fun q : NwAt V1 => q.nw.hold hcx
        clear hV1 d1 hv1 hx hcx j6 j7 d0 q
        gi_wp2_with fail
        refine fromIn_here ?_
        intro q
        refine wpIn_region_nwt 11 (by kernel_rfl) (by kernel_rfl) ?_ (by kernel_rfl) ?_
        · rintro ⟨a, w, h⟩; exact h
        simp only [List.take_succ_cons, List.take_zero, List.drop_succ_cons, List.drop_zero]
        repeat (go_big_quiet_step ((first | (go_at_call 71; exact nwAt_of (fNeg_u _ _ _)))))
        refine wpQuiet_nil ?_
        clear q
        rintro _ ⟨q, rfl⟩
        clear k0 k1 k2 k3 k5
        have hal := HE.out.2.2.2.2.2.1
        have hle : n + Bl.length ≤ rs.length := by have := HE.out; omega
        go_wp2_with (go_at_call 53; refine (addMultiple_w p (sb p 0 x) base g _ _ c0 n rs Bl _ q.out (by rw [hal]; exact (D1.out.1.nw q.nw).oa) (D1.out.1.nw q.nw).lb (fun _ => HP.out.ab M g rfl) hle (by omega) (by omega)).mono ?_; rintro _ V3 ⟨rfl, hown3, hg3⟩)
        rw [hal] at hown3
        have d3 := (D1.out.1.nw q.nw).adda HP.out rfl hg3 hown3
        have l1 := d3.ca
        have l2 := d3.cz
        have D3 := Lib.hid (And.intro d3 hg3)
        clear d3 hown3 hg3 hle hal
        gi_wp2
        have hgW : g < W5.heap.size := by have h1 := HP.out.aw M g rfl; have h2 := hb5.size; omega
        obtain ⟨hBl, hNe, hMe, hn, ht, hal, hql, hMt, hyg⟩ := HE.out
        have hcut := D3.out.1.cut HP.out (t := t) (by omega)
        rw [show t = A.length - (k + 1) by omega] at hcut
        have hm0 : m < Bl.length := by omega
        have ht0 : n + m < rs.length := by omega
        have hbm1 : Bl[m] = bm := by have := HM.out.2; rwa [getD_lt _ hm0] at this
        have hy1 : rs[n + m] = y := by rw [← hyg, ht, getD_lt _ ht0]
        have hst := D.out.2.step HK.out.1 HK.out.2.1 hk hn hBl (by rw [hbm1]; exact hub.lo) (by rw [hbm1]; exact HK.out.2.2.1) (by omega)
        rw [hbm1, hy1, ← D1.out.2.2, ← ht, show t = A.length - (k + 1) by omega] at hst
        rw [show t = A.length - (k + 1) by omega]
        exact ⟨((D1.out.2.1.trans (keeps_below q.nw.b)).trans (KeepsFrom.of_grownBy D3.out.2 (fun j e => by cases e; exact hgW))).trans (keeps_set _ _ _ _), _, _, hcut, hst⟩
      case done =>
        rintro D W1 hD ⟨qs, rs, d, dm⟩ hK
        clear x0 x1 x2 x3 x4 x5 x6 hoq5
        have hal := d.oa.len
        have DD := Lib.hid (And.intro d (And.intro dm hal))
        have hh := HP.out.hh
        have hbq := HP.out.bq
        have k0 := fun (w' : World) (h : HighK w.heap.size W1 w') => h _ _ (Nat.le_refl _) d.cf
        have k1 := fun (w' : World) (h : HighK w.heap.size W1 w') => h _ _ (by show w.heap.size ≤ w.heap.size + 1; omega) d.ca
        have k3 := fun (w' : World) (h : HighK w.heap.size W1 w') => h ⟨BQ, 0, none⟩ _ (by show w.heap.size ≤ BQ; omega) d.cq
        have F := HighK.refl w.heap.size W1
        clear d dm hal hh hbq
        go_wp2_with fail
        go_region_held3 (fun w' => HighK w.heap.size W1 w')
          (repeat (first | assumption | exact HighK.refl _ _ | refine HighK.drew ?_))
          (first
            | (go_at_call 44; refine (trim_w p base _ rs _ (DD.out.1.oa.hold (by repeat (first | exact Below.refl _ _ | refine Below.drew ?_))) (by have := DD.out.2.2; omega)).mono ?_; rintro _ w3 ⟨v3, rfl, hvb, hown3, hg3⟩; have F3 : HighK w.heap.size W1 w3 := (fun a v hb hv => grown_cell hg3 hv (fun e => by have := HP.out.aw _ _ e.symm; omega))))
        all_goals
          go_wp2
          have hK3 : w3.heap[D]? = some (.deferred (some [])) := (KeepsFrom.of_grownBy (B := W5.heap.size) hg3 (fun j e => by have h1 := HP.out.aw _ _ e; have h2 := hb5.size; omega)).same D _ hD hK rfl
          refine ⟨by simp, .inl ⟨_, _, rfl, run_takeDeferred hK3, ?_⟩⟩
          have hgp := grownBy_putObj' w3 D (.deferred none)
          have hgr : ∀ r, some D = some r → ∃ o : Obj, w3.heap[r]? = some o ∧ o.isCells = false := fun r e => by cases e; exact ⟨_, hK3, rfl⟩
          have hdone := DD.out.2.1.done HK.out.1 HM.out.1 (by have h1 := HM.out.1; have h2 := HM.out.2; rw [getD_lt _ (by omega)] at h2; rw [h2]; exact HK.out.2.2.1) (by have h1 := DD.out.2.2; have h2 := HN.out; omega)
          have hcl := cut0_len (rs.map (rd p))
          rw [List.length_map, DD.out.2.2] at hcl
          have h2 := HN.out
          have h3 := HM.out.1
          have hg4 : W1.grownBy w3 (Value.slice a0 (A.length - N) c0).ownBlock := grown_then ((Below.refl _ _).drew) hg3
          refine ⟨_, by simp [results, Try.results59, go_sem] <;> rfl, _, v3, qs, cut0 (rs.map (rd p)), rfl, ?_, hown3.turned hgp hgr, ?_, ?_, ⟨pf p qs, pf p rs, ?_, is_trim p rs, hdone.2⟩, ?_, by omega, by omega⟩
          · refine ((DD.out.1.oq.kept hg4 (.inr fun e => ?_)).turned hgp hgr).low (by have := HP.out.hh; omega)
            have h4 : W.heap.size < w.heap.size := HP.out.aw _ _ e.symm
            have := HP.out.hh
            omega
          · rw [hvb]; exact own_block_len _ _ _ _
          · have h4 := DD.out.1.g
            rw [own_block_len a0 A.length (A.length - N) c0]
            exact grown_past (grown_trans h4 hg4) hgp (fun r e => by cases e; have := hb5.size; omega)
          · unfold Is; rw [if_pos HK.out.1]; exact ⟨hdone.1, rfl⟩
          · rw [DD.out.2.1.lq]; omega
      case stop =>
        rintro D k W1 _ _ h _
        exact h.elim
end Go.Proofs.Ytgdnkbigdggbaaa
