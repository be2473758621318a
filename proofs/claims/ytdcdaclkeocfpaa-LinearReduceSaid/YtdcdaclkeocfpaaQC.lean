/- The walk of package linear's clearColumn; determinants of what elimination leaves. -/
import Derived.Test.YtdcdaclkeocfpaaQB
namespace Go.Proofs.Ytdcdaclkeocfpaa.Po
variable {q : Nat} [NeZero q]

theorem det_elim {m a j : Nat} (S : Nat → Nat → Fin q) (v : Fin q) (ha : a < m) : ∀ r, r ≤ m → det m (elim S a j v r) = v * det m S
  | 0, _ => by rw [elim_zero]; exact det_scale ha v S
  | r + 1, hr => by
    by_cases e : r = a
    · subst e; rw [elim_at]; exact det_elim S v ha r (by omega)
    · rw [elim_succ S j v e, det_add (by omega) ha e]; exact det_elim S v ha r (by omega)
omit [NeZero q] in
theorem swap_self (a : Nat) (M : Nat → Nat → Fin q) : swap a a M = M := funext fun i => funext fun j => by
  unfold swap
  by_cases e : i = a
  · rw [if_pos e, e]
  · rw [if_neg e, if_neg e]
end Go.Proofs.Ytdcdaclkeocfpaa.Po

namespace Go.Proofs.Ytdcdaclkeocfpaa
open Go.RowKit Go.BigFrame
open Classical

/-- w' is w, but for the blocks in S and new ones. -/
structure Grew (S : Nat → Prop) (w w' : World) : Prop where
  os : w'.os = w.os
  tape : w'.tape = w.tape
  output : w'.output = w.output
  size : w.heap.size ≤ w'.heap.size
  block : ∀ i, i < w.heap.size → ¬ S i → w'.heap[i]? = w.heap[i]?
theorem Grew.refl (S : Nat → Prop) (w : World) : Grew S w w := ⟨rfl, rfl, rfl, Nat.le_refl _, fun _ _ _ => rfl⟩
theorem Grew.step {S : Nat → Prop} {w a b : World} {r : Option Nat} (h : Grew S w a) (k : a.grownBy b r) (hr : ∀ g, r = some g → S g ∨ w.heap.size ≤ g) : Grew S w b :=
  ⟨k.os.trans h.os, k.tape.trans h.tape, k.output.trans h.output, Nat.le_trans h.size k.size, fun i hi hs => (k.block i (Nat.lt_of_lt_of_le hi h.size) fun e => by
    rcases hr i (by first | exact e | exact e.symm) with e2 | e2
    · exact hs e2
    · omega).trans (h.block i hi hs)⟩
theorem Grew.next {S : Nat → Prop} {w a b : World} (h : Grew S w a) (k : Below a.heap.size a b) : Grew S w b := h.step (r := none) (grown_of_below k) fun g e => by cases e
theorem Grew.cell {S : Nat → Prop} {w w' : World} (h : Grew S w w') {a : Addr} {v : Value} (hc : w.cell? a = some v) (hs : ¬ S a.block) : w'.cell? a = some v :=
  (World.cell?_of_block (h.block _ (World.block_lt_of_cell? _ _ hc) hs)).trans hc
theorem Grew.below {S : Nat → Prop} {B : Nat} {w a b : World} (h : Below B w a) (k : Grew S a b) (hB : B ≤ a.heap.size) (hs : ∀ g, S g → B ≤ g) : Below B w b :=
  ⟨k.os.trans h.os, k.tape.trans h.tape, k.output.trans h.output, Nat.le_trans h.size k.size, fun i hi => (k.block i (by omega) fun e => by
    have := hs i e; omega).trans (h.block i hi)⟩
theorem OwnM.rows {w : World} {base : Nat} {v : Value} {rs : Nat → Value} {L : List (List Int)} (h : OwnM w base v rs L) {i : Nat} (hi : i < L.length) (hn : 0 < L[i].length) : ∃ g cp, rs i = .slice (some ⟨g, 0, none⟩) L[i].length cp := by
  rcases (h.row i hi).cases with ⟨_, e⟩ | ⟨g, cp, e, _⟩
  · rw [e] at hn; simp at hn
  · exact ⟨g, cp, e⟩

theorem OwI.grew {S : Nat → Prop} {w w' : World} {base : Nat} {v : Value} {l : List Nat} (h : OwI w base v l) (k : Grew S w w') (hs : ∀ g, v.ownBlock = some g → ¬ S g) : OwI w' base v l := by
  refine ⟨h.1, ?_⟩
  rcases h.2 with e | ⟨g, cap, cur, e, hb, hg, r⟩
  · exact .inl e
  · have e2 : v.ownBlock = some g := by rw [e]; rfl
    exact .inr ⟨g, cap, cur, e, hb, (k.block g (World.ownsRow.lt h g e2).2 (hs g e2)).trans hg, r⟩

/-- The rows' blocks. -/
def RowB (m : Nat) (rs : Nat → Value) (b : Nat) : Prop := ∃ i, i < m ∧ (rs i).ownBlock = some b

set_option maxRecDepth 100000 in
set_option maxHeartbeats 4000000 in
theorem mclear_w (p : Int) [_hpU : U p] (hk : known p = true) (base g0 cap0 : Nat) (rs : Nat → Value) (N0 S : List (List Int)) (m n a j : Nat) (x : Fin (Q p)) (w : World) (hm : OwnM w base (.slice (some ⟨g0, 0, none⟩) m cap0) rs N0) (hmt : Mt p m n N0) (ha : a < m) (hj : j < n) (hmf : mf p N0 = Po.elim (mf p S) a j x 0) (hm1 : m ≤ 100) (hn1 : n ≤ 200) :
    Calls Try.prog 102 #[.agg #[.int .u64 p], .slice (some ⟨g0, 0, none⟩) m cap0, .int .i64 a, .int .i64 j] w fun e w' => ∃ N, e = .returned (.tuple #[]) ∧ OwnM w' base (.slice (some ⟨g0, 0, none⟩) m cap0) rs N ∧ Mt p m n N ∧ mf p N = Po.elim (mf p S) a j x m ∧ Grew (RowB m rs) w w' := by
  have HM := Lib.hid (And.intro hm (And.intro hmt (And.intro hmf hk)))
  have i1 : (m : Int) ≤ 100 := by omega
  have i2 : (n : Int) ≤ 200 := by omega
  have i3 : (a : Int) < (m : Int) := by omega
  have i4 : (0 : Int) ≤ (a : Int) := by omega
  have i5 : (0 : Int) ≤ (j : Int) := by omega
  have i6 : (j : Int) < (n : Int) := by omega
  clear hm hmt hmf hk
  go_enter Try.func102, Try.ntmps102
  go_wp2
  go_loopw [12] (fun rv wx => ∃ (r : Nat) (N : List (List Int)), rv = .int .i64 r ∧ r ≤ m ∧ OwnM wx base (.slice (some ⟨g0, 0, none⟩) m cap0) rs N ∧ Mt p m n N ∧ mf p N = Po.elim (mf p S) a j x r ∧ Grew (RowB m rs) w wx ∧ wx.cell? ⟨w.heap.size, 0, none⟩ = some (.int .u64 p)) (fun rv _ => m - (intOf rv).toNat)
  case atStart =>
    have hb : Below w.heap.size w (w.alloc (.cells #[.int .u64 p] 27)) := Below.made (Nat.le_refl _) (Below.refl _ _) _
    exact ⟨0, N0, rfl, Nat.zero_le _, HM.out.1.hold hb, HM.out.2.1, HM.out.2.2.1, (Grew.refl _ _).next hb, by go_simp⟩
  case round =>
    obtain ⟨r, N, rfl, hr, hm, hmt, hmf, hg, hbx⟩ := hrel
    have r0 : (0 : Int) ≤ (r : Int) := by omega
    by_cases hrm : r < m
    · have hNl := hmt.len
      have hrN : r < N.length := by omega
      have haN : a < N.length := by omega
      have hRl := hmt.row r hrN
      have hAl := hmt.row a haN
      obtain ⟨gr, cr, hrr⟩ := hm.rows hrN (by omega)
      obtain ⟨ga, ca, hra⟩ := hm.rows haN (by omega)
      rw [hRl] at hrr
      rw [hAl] at hra
      have hco := hm.out hrN hrr
      have hca := hm.out haN hra
      have r1 : (r : Int) < (m : Int) := by omega
      by_cases hne : r = a
      · have r2 : ((r : Int) != (a : Int)) = false := by simp; omega
        have hmf1 : mf p N = Po.elim (mf p S) a j x (r + 1) := by rw [hmf, hne, Po.elim_at]
        have HN := Lib.hid (And.intro hm (And.intro hmt (And.intro hmf1 (And.intro hg hbx))))
        clear hm hmt hmf hmf1 hg hne
        go_wp2_with fail
        exact ⟨⟨r + 1, N, by go_num, by omega, HN.out.1, HN.out.2.1, HN.out.2.2.1, HN.out.2.2.2.1, HN.out.2.2.2.2⟩, by simp [intOf]; omega⟩
      · have r2 : ((r : Int) != (a : Int)) = true := by simp; omega
        have hmf1 := mf_clear HM.out.2.2.2 hmt haN hrN hne hmf
        have hjr : j < N[r].length := by omega
        obtain ⟨hce, -, hux⟩ := hm.cellIn hrN hrr rfl hjr
        have hgd : N[r].getD j 0 = N[r][j] := getD_lt _ hjr
        rw [hgd, hRl] at hmf1
        obtain ⟨y, hy⟩ : ∃ y, y = N[r][j] := ⟨_, rfl⟩
        rw [← hy] at hce hux hmf1
        have hoR := hm.row r hrN
        have hoA := (hm.row a haN).lst
        have hap := hm.apart a r haN hrN (Ne.symm hne)
        have hRd := hmt.red r hrN
        obtain ⟨R, hR⟩ : ∃ R, R = N[r] := ⟨_, rfl⟩
        obtain ⟨T, hT⟩ : ∃ T, T = N[a] := ⟨_, rfl⟩
        rw [← hR] at hmf1 hRl hoR hRd
        rw [← hT] at hmf1 hAl hoA
        rw [hrr] at hoR hap
        rw [hra] at hoA hap
        have hmt1 : Mt p m n (N.set r (suK p y R T n)) := hmt.set (by rw [suK_len]; exact hRl) (suK_rdc HM.out.2.2.2 _ _ _ hRd)
        have HN := Lib.hid (And.intro hm (And.intro hmt1 (And.intro hmf1 (And.intro hg (And.intro hoR (And.intro hoA (And.intro hap (And.intro hrN hrr))))))))
        have HL := Lib.hid (And.intro hRl hAl)
        clear hm hmt hmt1 hmf hmf1 hg hoR hoA hap hne hR hT hy hgd hjr hRd hrr hra hRl hAl
        go_wp2_with fail
        have k0 := fun q : NwAt wr => q.nw.hold hbx
        have k1 := fun q : NwAt wr => q.nw.hold hca
        have k2 := fun q : NwAt wr => q.nw.hold hce
        refine from_here ?_
        intro q
        refine wp_region_nwt 12 (by kernel_rfl) (by kernel_rfl) ?_
        simp only [List.take_succ_cons, List.take_zero, List.drop_succ_cons, List.drop_zero]
        repeat (go_big_quiet_step ((first | (go_at_call 68; exact nwAt_of (fNeg_u _ _ _)))))
        refine wpQuiet_nil ?_
        clear q
        rintro _ ⟨q, rfl⟩
        have m0 := k0 q
        clear k0 k1 k2
        go_wp2_with (go_at_call 74; refine (maddMul_w p (sb p 0 y) base _ _ R T _ (HN.out.2.2.2.2.1.hold q.nw.b) (HN.out.2.2.2.2.2.1.hold q.nw.b) (fun _ e => HN.out.2.2.2.2.2.2.1 ga rfl e.symm) (by rw [HL.out.1, HL.out.2]; exact Nat.le_refl _) (by rw [HL.out.1]; omega)).mono ?_; rintro _ w2 ⟨rfl, hown2, hg2⟩)
        have hT := hown2
        rw [addL_su HM.out.2.2.2, HL.out.2] at hT
        have hup := (HN.out.1.hold q.nw.b).upd HN.out.2.2.2.2.2.2.2.1 (r := suK p y R T n) (by rw [HN.out.2.2.2.2.2.2.2.2]; exact hT) (by rw [HN.out.2.2.2.2.2.2.2.2]; exact hg2)
        have hgr : Grew (RowB m rs) w w2 := (HN.out.2.2.2.1.next q.nw.b).step hg2 fun b e => .inl ⟨r, hrm, by rw [HN.out.2.2.2.2.2.2.2.2]; exact e⟩
        have hgw := ((HM.out.1.row r (by rw [HM.out.2.1.len]; exact hrm)).row.lt gr (by rw [HN.out.2.2.2.2.2.2.2.2]; rfl)).2
        have hbx2 := grown_cell hg2 m0 (by intro e; have e2 : w.heap.size = gr := by simpa [Value.ownBlock] using e
                                           omega)
        exact ⟨⟨r + 1, _, by go_num, by omega, hup, HN.out.2.1, HN.out.2.2.1, hgr, hbx2⟩, by simp [intOf]; omega⟩
    · obtain rfl : r = m := by omega
      have HN := Lib.hid (And.intro hm (And.intro hmt (And.intro hmf hg)))
      clear hm hmt hmf hg
      go_wp2
      go_end0
      exact ⟨N, rfl, HN.out.1, HN.out.2.1, HN.out.2.2.1, HN.out.2.2.2⟩
end Go.Proofs.Ytdcdaclkeocfpaa
