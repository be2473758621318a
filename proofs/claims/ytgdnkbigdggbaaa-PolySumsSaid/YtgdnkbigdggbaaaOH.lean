/- The walk of package poly's GCD. -/
import Derived.Test.YtgdnkbigdggbaaaOG
namespace Go.Proofs.Ytgdnkbigdggbaaa
open Go.RowKit Go.BigFrame

set_option maxRecDepth 100000 in
set_option maxHeartbeats 8000000 in
theorem oGCD_p (p : Int) [hU : U p] (va vb : Value) (a b : List Int) (w : World) (hla : Lst w va a) (hlb : Lst w vb b) (hna : a.length ≤ 100) (hnb : b.length ≤ 100) :
    Calls Try.prog 34 #[.agg #[.int .u64 p], va, vb] w fun e w' => ∃ v r g, e = .returned v ∧ Lst w' v r ∧ Is p r g ∧ (known p = true → Po.GcdOf (pf p a) (pf p b) g) ∧ Below w.heap.size w w' := by
  have HL := Lib.hid (And.intro hla hlb)
  clear hla hlb
  go_enter Try.func34, Try.ntmps34
  go_upto_region 1 with fail
  refine name_world ?_
  intro W hW
  have hf : W.cell? ⟨w.heap.size, 0, none⟩ = some (.int .u64 p) := by rw [hW]; go_simp
  have hb : Below w.heap.size w W := by rw [hW]; exact Below.made (Nat.le_refl _) (Below.refl _ _) _
  have HB := Lib.hid hb
  have HA := Lib.hid (And.intro (HL.out.1.hold hb) (HL.out.2.hold hb))
  clear hW hb
  go_cut [1, 2] (fun s1 s2 wx => Below W.heap.size W wx ∧ Own wx W.heap.size s1 (cut0 (a.map (rd p))) ∧ Own wx W.heap.size s2 (cut0 (b.map (rd p))) ∧ (s1.ownBlock = none ∨ s2.ownBlock ≠ s1.ownBlock))
  case first =>
    have hcell := fun (w' : World) (h : Below W.heap.size W w') => Below.hold h hf
    have F := Below.refl W.heap.size W
    clear hf
    go_region_held3 (fun w' => Below W.heap.size W w')
      (repeat (first | assumption | refine Below.drew ?_ | refine Below.next (Nat.le_refl _) ?_ (by assumption)))
      (first
        | (go_at_call 15; refine (oTrim_any p _ a _ (HA.out.1.hold (by assumption)) (by omega)).mono ?_; rintro _ w2 ⟨v1, rfl, ho1, hb1⟩)
        | (go_at_call 15; refine (oTrim_any p _ b _ (HA.out.2.hold (by assumption)) (by omega)).mono ?_; rintro _ w3 ⟨v2, rfl, ho2, hb2⟩))
    all_goals
      go_wp2_with fail
      go_meet
      exact ⟨by assumption, (ho1.hold hb2).low (by simp), ho2.low (by have := hb1.size; simpa using this), own_apart ho1 ho2⟩
  case rest =>
    rename World => wx
    obtain ⟨hbx, ho1, ho2, hap⟩ := hcut
    have h1 := is_trim p a
    have h2 := is_trim p b
    have HS := Lib.hid (show GcdSt p (pf p a) (pf p b) (cut0 (a.map (rd p))) (cut0 (b.map (rd p))) from ⟨is_self h1, is_self h2, fun hk => by
        rw [h1.pf hk, h2.pf hk]
        exact ⟨Po.Comb.left _ _, Po.Comb.right _ _, Po.Comb.left _ _, Po.Comb.right _ _⟩,
      by have := cut0_len (a.map (rd p)); simp at this; omega, by have := cut0_len (b.map (rd p)); simp at this; omega⟩)
    have HO := Lib.hid (And.intro ho1 (And.intro ho2 (And.intro hap hbx)))
    clear ho1 ho2 hap hbx h1 h2
    go_wp2
    go_loopw [1, 2] (fun av bv wr => ∃ x y, Own wr W.heap.size av x ∧ Own wr W.heap.size bv y ∧ (av.ownBlock = none ∨ bv.ownBlock ≠ av.ownBlock) ∧ GcdSt p (pf p a) (pf p b) x y ∧ Below W.heap.size W wr) (fun _ bv _ => lenOf bv)
    case atStart => exact ⟨_, _, HO.out.1, HO.out.2.1, HO.out.2.2.1, HS.out, HO.out.2.2.2⟩
    case round =>
      obtain ⟨x, y, hox, hoy, hap, hst, hb⟩ := hrel
      obtain ⟨ax, cx, rfl⟩ := hox.lst.shape
      obtain ⟨ay, cy, rfl⟩ := hoy.lst.shape
      have hp := Below.hold hb hf
      have hyl : (y.length : Int) ≤ 500 := by have := hst.ly; omega
      have hxl : x.length ≤ 500 := hst.lx
      by_cases hy : y = []
      · subst hy
        cases hx : x.length with
        | zero =>
          have e : x = [] := List.length_eq_zero_iff.1 hx
          subst e
          have hg : known p = true → Po.GcdOf (pf p a) (pf p b) Po.ze := fun hk => by
            obtain ⟨k1, _, k3, k4⟩ := hst.combs hk
            rw [pf_nil hk] at k1 k3 k4
            exact Po.mon_gcd k1 k3 k4 (.inl ⟨rfl, rfl⟩)
          have HR := Lib.hid (And.intro hg (Below.next (Nat.le_refl _) HB.out hb))
          clear hox hoy hap hst hb hg hx hf HO
          go_wp2
          go_ret
          exact ⟨_, [], Po.ze, rfl, Lst.nil _, Is.zero p, HR.out.1, HR.out.2⟩
        | succ m =>
          have hk : known p = true := by
            cases hk : known p with
            | true => rfl
            | false => rw [hst.nx.nil hk] at hx; simp at hx
          have hml : m < x.length := by omega
          obtain ⟨bb, ob, cb, e, hc⟩ := hox.lst.cells m hml
          obtain ⟨rfl, rfl⟩ : ax = some ⟨bb, ob, none⟩ ∧ cx = cb := by simp at e; exact e
          have hux := hox.us x[m] (List.getElem_mem hml)
          have hinv := ph_iv hk (b := x[m]) hux.lo (last_ne (hst.nx.nf hk) hx)
          have hg : Po.GcdOf (pf p a) (pf p b) (Po.sc (ph p (iv p x[m])) (pf p x)) := by
            obtain ⟨k1, _, k3, k4⟩ := hst.combs hk
            rw [pf_nil hk] at k3 k4
            refine Po.mon_gcd k1 k3 k4 (.inr ⟨m, ph p (iv p x[m]), (hst.nx.top hk hx).2, ?_, rfl⟩)
            rw [pf_at (p := p) x hml]; exact hinv
          obtain ⟨z, hz⟩ : ∃ z, z = x[m] := ⟨_, rfl⟩
          rw [← hz] at hux hc hg
          have HR := Lib.hid (And.intro hg (And.intro hb (And.intro hox.lst hx)))
          have i2 : (m : Int) ≤ 500 := by omega
          have i3 : (x.length : Int) - 1 = (m : Int) := by omega
          have i4 : (m : Int) < (x.length : Int) := by omega
          have i5 : (0 : Int) ≤ (m : Int) := by omega
          have i6 : ¬ ((x.length : Int) = 0) := by omega
          have i7 : ¬ (x.length = 0) := by omega
          clear hox hoy hap hst hb hg hz e hinv hk hf HO hml hx
          go_wp2_with fail
          have k0 := fun q : NwAt wr => q.nw.hold hp
          have k1 := fun q : NwAt wr => q.nw.hold hc
          refine from_here ?_
          intro q
          refine wp_region_nwt 10 (by kernel_rfl) (by kernel_rfl) ?_
          simp only [List.take_succ_cons, List.take_zero, List.drop_succ_cons, List.drop_zero]
          repeat (go_big_quiet_step ((first | (go_at_call 62; exact nwAt_of (fInv_u _ _ _)))))
          refine wpQuiet_nil ?_
          clear q
          rintro _ ⟨q, rfl⟩
          clear k0 k1
          go_wp2_with (go_at_call 23; refine (oScale_any p (iv p z) _ x _ (by have h := HR.out.2.2.1.hold q.nw.b; rwa [HR.out.2.2.2] at h) (by omega)).mono ?_; rintro _ w3 ⟨v3, r3, rfl, hown3, his3, hb3⟩)
          go_ret
          exact ⟨_, r3, _, rfl, hown3.lst, his3, fun _ => HR.out.1, Below.next (Nat.le_refl _) HB.out (Below.next (Nat.le_refl _) (Below.next (Nat.le_refl _) HR.out.2.1 q.nw.b) hb3)⟩
      · have hk := (hst.nz hy).1
        obtain ⟨m, hm⟩ : ∃ m, y.length = m + 1 := ⟨y.length - 1, by have := List.length_pos_iff.2 hy; omega⟩
        have hp2 : (0 : Int) < (y.length : Int) := by omega
        have hym : y.getD m 0 % p ≠ 0 := by rw [getD_lt _ (by omega)]; exact last_ne (hst.ny.nf hk) hm
        have HR := Lib.hid (And.intro hox (And.intro hoy (And.intro hap (And.intro hst (And.intro hb (And.intro hk (And.intro hm (And.intro hym hy))))))))
        clear hox hoy hap hst hb hk hm hym hy hf HO
        go_wp2_with (go_at_call 59; refine (divide_w p HR.out.2.2.2.2.2.1 W.heap.size _ _ x y m _ wr HR.out.1 HR.out.2.1.lst HR.out.2.2.1 (HR.out.2.2.2.1.nx.nf HR.out.2.2.2.2.2.1) HR.out.2.2.2.2.2.2.1 rfl HR.out.2.2.2.2.2.2.2.1 hxl HR.out.2.2.2.1.ly).mono ?_; rintro _ w4 ⟨v1, v2, r1, r2, rfl, hown1, hown2, hvb, hg, hdiv, hl1, hl2, hl3⟩)
        obtain ⟨a4, c4, rfl⟩ := hown2.lst.shape
        obtain ⟨hst2, hlt⟩ := HR.out.2.2.2.1.step HR.out.2.2.2.2.2.2.2.2 hdiv
        have hoy2 := HR.out.2.1.kept hg (by
          rcases HR.out.2.2.1 with h | h
          · right; rw [h]; intro e2; rcases HR.out.2.1.cases with ⟨e, e3⟩ | ⟨g, cap, e, _⟩
            · exact HR.out.2.2.2.2.2.2.2.2 e3
            · rw [e] at e2; simp [Value.ownBlock] at e2
          · exact .inr h)
        refine ⟨⟨y, r2, hoy2, hown2, ?_, hst2, Below.wrote HR.out.2.2.2.2.1 (Nat.le_refl _) HR.out.2.2.2.2.1.size HR.out.1 hg⟩, by simp [lenOf]; omega⟩
        right
        rw [hvb]
        rcases HR.out.2.2.1 with h | h
        · rw [h]
          intro e
          rcases HR.out.2.1.cases with ⟨e1, e3⟩ | ⟨g, cap, e1, _⟩
          · exact HR.out.2.2.2.2.2.2.2.2 e3
          · rw [e1] at e; simp [Value.ownBlock] at e
        · exact Ne.symm h
end Go.Proofs.Ytgdnkbigdggbaaa
