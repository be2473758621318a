/- The walk of package poly's Interpolate. -/
import Derived.Test.YtgdnkbigdggbaaaOI
import Derived.Test.YtgdnkbigdggbaaaOV
namespace Go.Proofs.Ytgdnkbigdggbaaa
open Go.RowKit Go.BigFrame

theorem fDiv_u (p a b : Int) [hp : U p] [ha : U a] [hb : U b] (w : World) : Calls Try.prog 64 #[.agg #[.int .u64 p], .int .u64 a, .int .u64 b] w fun en w' => en = .returned (.int .u64 (ml p a (iv p b))) ∧ Nw w.heap.size w w' := fDiv_any p a b hp.lo hp.hi ha.lo ha.hi hb.lo hb.hi w

/-- What an interpolation returns. -/
def IntL (p : Int) (xs ys : List Int) (w : World) (e : Ending) (w' : World) : Prop :=
  ∃ v r er, e = .returned (.tuple #[v, .int .i64 er]) ∧ Lst w' v r ∧ Below w.heap.size w w' ∧
    ((known p = false ∧ r = [] ∧ er = 7) ∨ (known p = true ∧ (xs.length ≠ ys.length ∨ diffB p xs = false) ∧ r = [] ∧ er = 1) ∨ (known p = true ∧ xs.length = ys.length ∧ diffB p xs = true ∧ er = 0 ∧ ∃ F, Is p r F ∧ Lag p xs ys xs.length F))

set_option maxRecDepth 100000 in
set_option maxHeartbeats 8000000 in
theorem oInterpolate_p (p : Int) [hU : U p] (vx vy : Value) (xs ys : List Int) (w : World) (hlx : Lst w vx xs) (hly : Lst w vy ys) (hnx : xs.length ≤ 12) (hny : ys.length ≤ 12) :
    Calls Try.prog 36 #[.agg #[.int .u64 p], vx, vy] w (IntL p xs ys w) := by
  obtain ⟨a0, c0, rfl⟩ := hlx.shape
  obtain ⟨a1, c1, rfl⟩ := hly.shape
  have HL := Lib.hid (And.intro hlx hly)
  clear hlx hly
  have i1 : (xs.length : Int) ≤ 12 := by omega
  have i2 : (ys.length : Int) ≤ 12 := by omega
  by_cases hk : known p = true
  · have HK := Lib.hid hk
    clear hk
    by_cases hlen : xs.length = ys.length
    · have i3 : (ys.length : Int) = (xs.length : Int) := by omega
      have HN := Lib.hid hlen
      replace hlen := hlen.symm
      go_enter Try.func36, Try.ntmps36
      go_upto_region 5 with (go_at_call 58; refine (valid_any _ _).mono ?_; rintro e W ⟨rfl, hb1⟩; rw [HK.out])
      clear hlen i3
      have hf : W.cell? ⟨w.heap.size, 0, none⟩ = some (.int .u64 p) := hb1.hold (by go_simp)
      have hb : Below w.heap.size w W := Below.next (Nat.le_refl _) (Below.made (Nat.le_refl _) (Below.refl _ _) _) hb1.b
      have hsz : w.heap.size < W.heap.size := by have := hb1.b.size; simp at this; omega
      have HB := Lib.hid (And.intro hb hsz)
      clear hb1 hb hsz
      go_wp2
      go_loopw [8, 9, 25] (fun rv sv iv wr => ∃ (k g c : Nat) (r s : List Int), iv = .int .i64 k ∧ k ≤ xs.length ∧ sv = .slice (some ⟨g, 0, none⟩) (k + 1) c ∧ Own wr W.heap.size rv r ∧ Own wr W.heap.size (.slice (some ⟨g, 0, none⟩) (k + 1) c) s ∧ rv.ownBlock ≠ some g ∧ NewM p xs ys k r s ∧ Below W.heap.size W wr) (fun _ _ iv _ => xs.length - (intOf iv).toNat)
      case atStart =>
        refine ⟨0, _, _, [], [1], rfl, Nat.zero_le _, rfl, Own.nil _ _, ?_, by simp [Value.ownBlock], NewM.start HK.out xs ys, Below.made (Nat.le_refl _) (Below.refl _ _) _⟩
        exact own_of (l := [1]) (Nat.le_refl _) (by simpa [vs] using heap_alloc_new W (.cells #[.int .u64 1] 22)) (by simp) (fun y hy => by simp at hy; subst hy; infer_instance)
      case round =>
        obtain ⟨k, g, c, r, s, rfl, hk, rfl, hor, hos, hgr, hm, hb⟩ := hrel
        have hrl := hm.lr
        have hsl := hm.ls
        have hp := Below.hold hb hf
        by_cases hlt : k < xs.length
        · have hlt2 : k < ys.length := by have := HN.out; omega
          obtain ⟨bx, ox, cx, e1, g1⟩ := ((HL.out.1.hold HB.out.1).hold hb).cells k hlt
          obtain ⟨by_, oy, cy, e2, g2⟩ := ((HL.out.2.hold HB.out.1).hold hb).cells k hlt2
          obtain ⟨rfl, rfl⟩ : a0 = some ⟨bx, ox, none⟩ ∧ c0 = cx := by simp at e1; exact e1
          obtain ⟨rfl, rfl⟩ : a1 = some ⟨by_, oy, none⟩ ∧ c1 = cy := by simp at e2; exact e2
          have hu1 := HL.out.1.us xs[k] (List.getElem_mem hlt)
          have hu2 := HL.out.2.us ys[k] (List.getElem_mem hlt2)
          have hsame := fun hv => hm.same HK.out hlt hv
          have hstep := fun v hv hv0 => hm.step HK.out hlt (v := v) hv hv0
          rw [getD_lt _ hlt2] at hstep
          obtain ⟨x, hx⟩ : ∃ x, x = xs[k] := ⟨_, rfl⟩
          obtain ⟨y, hy⟩ : ∃ y, y = ys[k] := ⟨_, rfl⟩
          rw [← hx] at hu1 g1 hsame
          simp only [← hx, ← hy] at hstep
          rw [← hy] at hu2 g2
          obtain ⟨v, hv⟩ : ∃ v, v = ival p (Po.ev (pf p s) (ph p x) s.length) := ⟨_, rfl⟩
          obtain ⟨u, hu⟩ : ∃ u, u = ival p (Po.ev (pf p r) (ph p x) r.length) := ⟨_, rfl⟩
          have hvU : U v := by rw [hv]; infer_instance
          have huU : U u := by rw [hu]; infer_instance
          rw [← hv] at hsame
          simp only [← hu] at hstep
          have i4 : (0 : Int) ≤ (k : Int) := by omega
          have i5 : (k : Int) < (xs.length : Int) := by omega
          have i6 : (k : Int) < (ys.length : Int) := by omega
          have HO := Lib.hid (And.intro hor (And.intro hos (And.intro hgr (And.intro hb (And.intro hrl hsl)))))
          have HV := Lib.hid (And.intro hv hu)
          have HS := Lib.hid (And.intro hsame (hstep v hv))
          clear hor hos hgr hm hb hrl hsl hlt hlt2 e1 e2 hx hy hv hu hsame hstep hf
          go_upto_region 11 with (go_at_call 27; refine (oEval_any p x _ s _ HO.out.2.1.lst (by have := HO.out.2.2.2.2.2; omega)).mono ?_; rintro _ w2 ⟨rfl, hb2⟩; rw [← HV.out.1])
          have hp2 := Below.hold hb2 hp
          have g12 := Below.hold hb2 g1
          have g22 := Below.hold hb2 g2
          have HB2 := Lib.hid hb2
          clear hp g1 g2 hb2
          by_cases hv0 : v = 0
          · have hd := HS.out.1 hv0
            subst hv0
            have HD := Lib.hid hd
            clear hd
            go_wp2
            refine bodyPost_ret (results_tmp2 rfl _ _ _) rfl ?_
            exact ⟨_, [], 1, rfl, Lst.nil _, Below.next (Nat.le_refl _) HB.out.1 (Below.next (Nat.le_refl _) HO.out.2.2.2.1 HB2.out), .inr (.inl ⟨HK.out, .inr HD.out, rfl, rfl⟩)⟩
          · have HN2 := Lib.hid (HS.out.2 hv0)
            have hv1 : (v == 0) = false := by simpa using hv0
            clear HS
            go_upto_region 13 with fail
            have m1 := fun q : BwAt w2 => Below.hold q.bw hp2
            have m2 := fun q : BwAt w2 => Below.hold q.bw g22
            have HE := Lib.hid (fun q : BwAt w2 => ((HO.out.1.hold HB2.out).hold q.bw).lst)
            clear g12 g22
            refine from_now ?_
            intro q
            refine wp_region_bw (by kernel_rfl) (by kernel_rfl) ?_
            repeat (go_big_quiet_step ((first | (go_at_call 27; exact bwAt_of (oEval_any p x _ r _ (HE.out _) (by have := HO.out.2.2.2.2.1; omega))) | (go_at_call 51; exact bwAt_nw (fSub_u _ _ _ _)))))
            refine wpQuiet_nil ?_
            clear q
            rintro _ ⟨q, rfl⟩
            rw [← HV.out.2]
            clear m1 m2
            have hbq : Below W.heap.size W q.out := Below.next (Nat.le_refl _) (Below.next (Nat.le_refl _) HO.out.2.2.2.1 HB2.out) q.bw
            have hoq8 := (HO.out.1.hold HB2.out).hold q.bw
            have hoq9 := (HO.out.2.1.hold HB2.out).hold q.bw
            have hpq := Below.hold q.bw hp2
            have HQ := Lib.hid (And.intro hoq8 (And.intro hoq9 (And.intro hbq hpq)))
            have hne : u8.ownBlock ≠ some w.heap.size := fun e => by have h1 : W.heap.size ≤ w.heap.size := (hoq8.row.lt _ e).1; have := HB.out.2; omega
            obtain ⟨c9, hc9⟩ : ∃ x, x = ml p (sb p y u) (iv p v) := ⟨_, rfl⟩
            have hc9U : U c9 := by rw [hc9]; infer_instance
            have HC := Lib.hid hc9
            have HNE := Lib.hid hne
            clear hp2 hbq hoq8 hoq9 hpq hne hc9
            obtain ⟨Z, hZ⟩ : ∃ Z, Z = q.out := ⟨_, rfl⟩
            rw [← hZ] at HQ ⊢
            clear hZ q HE
            go_wp2_with (at_builtin; refine append_new rfl (.tmp 46) (.tmp 47) rfl W.heap.size _ r rfl HQ.out.1 0 inferInstance rfl (by have := HO.out.2.2.2.2.1; omega) HQ.out.2.2.1.size ?_; intro g8 c8 w4 hown8 hg8 hgr8)
            have hp4 := grown_cell hgr8 HQ.out.2.2.2 (Ne.symm HNE.out)
            have ho9 := HQ.out.2.1.kept hgr8 (.inr fun e => HO.out.2.2.1 e.symm)
            have hbw4 := Below.wrote HQ.out.2.2.1 (Nat.le_refl _) HQ.out.2.2.1.size HQ.out.1 hgr8
            have h89 : g8 ≠ g := by
              rcases hg8 with e | e
              · intro h; rw [h] at e; exact HO.out.2.2.1 e
              · have := (HQ.out.2.1.row.lt g rfl).2; omega
            have H4 := Lib.hid (And.intro hown8 (And.intro ho9 (And.intro hbw4 h89)))
            have k0 := fun q : NwAt w4 => q.nw.hold hp4
            have hrl := HO.out.2.2.2.2.1
            rw [hrl] at hown8 ⊢
            clear hown8 hg8 hgr8 ho9 hbw4 h89 hrl
            go_wp2_with fail
            refine from_here ?_
            intro q
            refine wp_region_nwt 7 (by kernel_rfl) (by kernel_rfl) ?_
            simp only [List.take_succ_cons, List.take_zero, List.drop_succ_cons, List.drop_zero]
            repeat (go_big_quiet_step ((first | (go_at_call 64; exact nwAt_of (fDiv_u _ _ _ _)))))
            refine wpQuiet_nil ?_
            clear q
            rintro _ ⟨q, rfl⟩
            rw [← HC.out]
            have kq := k0 q
            clear k0
            have hrl := HO.out.2.2.2.2.1
            have hsl := HO.out.2.2.2.2.2
            have hg8w : w.heap.size < g8 := by have h1 := (H4.out.1.row.lt g8 rfl).1; have := HB.out.2; omega
            have hrl1 : (r ++ [0]).length = k + 1 := by simp; omega
            have ho8q : Own q.out W.heap.size (.slice (some ⟨g8, 0, none⟩) (r ++ [0]).length c8) (r ++ [0]) := by
              have h := H4.out.1.hold q.nw.b
              rw [hrl] at h; rw [hrl1]; exact h
            have HQ8 := Lib.hid (And.intro ho8q (And.intro hrl (And.intro hsl hrl1)))
            clear ho8q hrl hsl hrl1
            go_wp2_with (first
              | (go_at_call 53; refine (addMultiple_w p c9 W.heap.size g8 _ _ c8 0 (r ++ [0]) s _ q.out HQ8.out.1 (H4.out.2.1.hold q.nw.b).lst (fun _ e => H4.out.2.2.2 (Option.some.inj e).symm) (by have h1 := HQ8.out.2; omega) (by have h1 := HQ8.out.2; omega) (by have h1 := HQ8.out.2; omega)).mono ?_; rintro _ w6 ⟨rfl, hown6, hg6⟩; have kf := grown_cell hg6 kq (fun e => by have h1 : w.heap.size = g8 := Option.some.inj e; omega))
              | (go_at_call 65; refine (timesRoot_w p x W.heap.size _ s _ ((H4.out.2.1.hold q.nw.b).kept hg6 (.inr fun e => H4.out.2.2.2 (Option.some.inj e).symm)) (Nat.le_trans (Nat.le_trans H4.out.2.2.1.size q.nw.b.size) hg6.size) (by have h1 := HQ8.out.2; omega)).mono ?_; rintro _ w7 ⟨g9, c7, rfl, hown7, hg7, hgr7⟩))
            have hbw6 := Below.wrote (Below.next (Nat.le_refl _) H4.out.2.2.1 q.nw.b) (Nat.le_refl _) (Nat.le_trans H4.out.2.2.1.size q.nw.b.size) HQ8.out.1 hg6
            have ho9 := (H4.out.2.1.hold q.nw.b).kept hg6 (.inr fun e => H4.out.2.2.2 (Option.some.inj e).symm)
            have hg8lt := (hown6.row.lt g8 rfl).2
            have ho87 := hown6.kept hgr7 (.inr fun e => H4.out.2.2.2 (Option.some.inj e))
            have hbw7 := Below.wrote hbw6 (Nat.le_refl _) hbw6.size ho9 hgr7
            have hNm := HN2.out
            rw [← HC.out] at hNm
            rw [HQ8.out.2.2.2] at ho87
            rw [HQ8.out.2.2.1] at hown7 ⊢
            refine ⟨⟨k + 1, g9, c7, _, _, by go_num, by omega, rfl, ho87, hown7, fun e => ?_, hNm, hbw7⟩, by simp [intOf]; omega⟩
            have e2 : g8 = g9 := Option.some.inj e
            rcases hg7 with e3 | e3
            · have e4 : g = g9 := Option.some.inj e3
              exact H4.out.2.2.2 (by omega)
            · omega
        · obtain rfl : k = xs.length := by omega
          have HO := Lib.hid (And.intro hor (And.intro hm hb))
          clear hor hos hgr hm hb hsl
          go_wp2_with (go_at_call 44; refine (trim_w p _ _ r _ HO.out.1 (by omega)).mono ?_; rintro _ w2 ⟨v2, rfl, _, hown2, hg2⟩)
          refine bodyPost_ret (results_tmp2 rfl _ _ _) rfl ?_
          obtain ⟨hd, hlag⟩ := HO.out.2.1.done HK.out
          exact ⟨_, _, 0, rfl, hown2.lst, Below.next (Nat.le_refl _) HB.out.1 (Below.wrote HO.out.2.2 (Nat.le_refl _) HO.out.2.2.size HO.out.1 hg2), .inr (.inr ⟨HK.out, HN.out, hd, rfl, _, is_trim p r, hlag⟩)⟩
    · have i3 : ¬ ((xs.length : Int) = (ys.length : Int)) := by omega
      have HN := Lib.hid hlen
      clear hlen
      go_enter Try.func36, Try.ntmps36
      go_wp2_with (go_at_call 58; refine (valid_any _ _).mono ?_; rintro e w1 ⟨rfl, hb1⟩; rw [HK.out])
      refine bodyPost_ret (results_tmp2 rfl _ _ _) rfl ?_
      exact ⟨_, [], 1, rfl, Lst.nil _, Below.next (Nat.le_refl _) (Below.made (Nat.le_refl _) (Below.refl _ _) _) hb1.b, .inr (.inl ⟨HK.out, .inl HN.out, rfl, rfl⟩)⟩
  · have hk : known p = false := by simpa using hk
    have HK := Lib.hid hk
    clear hk
    go_enter Try.func36, Try.ntmps36
    go_wp2_with (go_at_call 58; refine (valid_any _ _).mono ?_; rintro e w1 ⟨rfl, hb1⟩; rw [HK.out])
    refine bodyPost_ret (results_tmp2 rfl _ _ _) rfl ?_
    exact ⟨_, [], 7, rfl, Lst.nil _, Below.next (Nat.le_refl _) (Below.made (Nat.le_refl _) (Below.refl _ _) _) hb1.b, .inl ⟨HK.out, rfl, rfl⟩⟩
end Go.Proofs.Ytgdnkbigdggbaaa
