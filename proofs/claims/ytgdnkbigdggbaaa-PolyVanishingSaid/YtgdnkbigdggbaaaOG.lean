/- The walks of package poly's DivMod and GCD. -/
import Derived.Test.YtgdnkbigdggbaaaOF
namespace Go.Proofs.Ytgdnkbigdggbaaa
open Go.RowKit Go.BigFrame

theorem own_apart {w2 w3 : World} {b1 : Nat} {v1 v2 : Value} {l1 l2 : List Int} (h1 : Own w2 b1 v1 l1) (h2 : Own w3 w2.heap.size v2 l2) : v1.ownBlock = none ∨ v2.ownBlock ≠ v1.ownBlock := by
  cases h : v1.ownBlock with
  | none => exact .inl rfl
  | some g =>
    right
    intro e
    have := (h1.row.lt g h).2
    have := (h2.row.lt g e).1
    omega

/-- What a division returns. -/
def DivL (p : Int) (A B : Nat → Fin (Q p)) (w : World) (e : Ending) (w' : World) : Prop :=
  ∃ v1 v2 r1 r2 er, e = .returned (.tuple #[v1, v2, .int .i64 er]) ∧ Lst w' v1 r1 ∧ Lst w' v2 r2 ∧ Below w.heap.size w w' ∧
    ((known p = false ∧ r1 = [] ∧ r2 = [] ∧ er = 7) ∨ (known p = true ∧ B = Po.ze ∧ r1 = [] ∧ r2 = [] ∧ er = 1) ∨ (known p = true ∧ B ≠ Po.ze ∧ er = 0 ∧ r1.length ≤ 101 ∧ r2.length ≤ 100 ∧ ∃ u r, Is p r1 u ∧ Is p r2 r ∧ Po.DivOf A B u r))

set_option maxRecDepth 100000 in
set_option maxHeartbeats 8000000 in
theorem oDivMod_p (p : Int) [hU : U p] (va vb : Value) (a b : List Int) (w : World) (hla : Lst w va a) (hlb : Lst w vb b) (hna : a.length ≤ 100) (hnb : b.length ≤ 100) :
    Calls Try.prog 31 #[.agg #[.int .u64 p], va, vb] w (DivL p (pf p a) (pf p b) w) := by
  have HL := Lib.hid (And.intro hla hlb)
  clear hla hlb
  by_cases hk : known p = true
  · have HK := Lib.hid hk
    clear hk
    go_enter Try.func31, Try.ntmps31
    go_upto_region 3 with (go_at_call 58; refine (valid_any _ _).mono ?_; rintro e W ⟨rfl, hb1⟩; rw [HK.out])
    have hf : W.cell? ⟨w.heap.size, 0, none⟩ = some (.int .u64 p) := hb1.hold (by go_simp)
    have hb : Below w.heap.size w W := Below.next (Nat.le_refl _) (Below.made (Nat.le_refl _) (Below.refl _ _) _) hb1.b
    have HB := Lib.hid hb
    have HA := Lib.hid (And.intro (HL.out.1.hold hb) (HL.out.2.hold hb))
    clear hb1 hb
    go_cut [1, 2] (fun s1 s2 wx => Below W.heap.size W wx ∧ Own wx W.heap.size s1 (cut0 (a.map (rd p))) ∧ Own wx W.heap.size s2 (cut0 (b.map (rd p))) ∧ (s1.ownBlock = none ∨ s2.ownBlock ≠ s1.ownBlock))
    case first =>
      have hcell := fun (w' : World) (h : Below W.heap.size W w') => Below.hold h hf
      have F := Below.refl W.heap.size W
      clear hf
      go_region_held3 (fun w' => Below W.heap.size W w')
        (repeat (first | assumption | refine Below.drew ?_ | refine Below.next (Nat.le_refl _) ?_ (by assumption)))
        (first
          | (go_at_call 15; refine (oTrim_any p _ a _ (HA.out.1.hold (by assumption)) (by omega)).mono ?_; rintro _ w2 ⟨v1, rfl, ho1, hb1⟩)
          | (go_at_call 15; refine (oTrim_any p _ b _ (HA.out.2.hold (by assumption)) (by omega)).mono ?_; rintro _ w3 ⟨v2, rfl, ho2, hb2⟩))
      all_goals
        go_wp2_with fail
        go_meet
        exact ⟨by assumption, (ho1.hold hb2).low (by simp), ho2.low (by have := hb1.size; simpa using this), own_apart ho1 ho2⟩
    case rest =>
      rename World => wx
      obtain ⟨hbx, ho1, ho2, hap⟩ := hcut
      obtain ⟨ra, hra⟩ : ∃ ra, ra = cut0 (a.map (rd p)) := ⟨_, rfl⟩
      obtain ⟨rb, hrb⟩ : ∃ rb, rb = cut0 (b.map (rd p)) := ⟨_, rfl⟩
      rw [← hra] at ho1
      rw [← hrb] at ho2
      have hia : Is p ra (pf p a) := by rw [hra]; exact is_trim p a
      have hib : Is p rb (pf p b) := by rw [hrb]; exact is_trim p b
      have hla : ra.length ≤ 100 := by have := cut0_len (a.map (rd p)); rw [← hra] at this; simp at this; omega
      have hlb : rb.length ≤ 100 := by have := cut0_len (b.map (rd p)); rw [← hrb] at this; simp at this; omega
      obtain ⟨a2, c2, rfl⟩ := ho2.lst.shape
      have hf1 := Below.hold hbx hf
      have HX := Lib.hid (And.intro (Below.next (Nat.le_refl _) HB.out hbx) hbx)
      have i2 : (rb.length : Int) ≤ 100 := by omega
      cases hr : rb.length with
      | zero =>
        have e : rb = [] := List.length_eq_zero_iff.1 hr
        have hz : pf p b = Po.ze := by rw [← hib.pf HK.out, e, pf_nil HK.out]
        have HZ := Lib.hid hz
        rw [hr] at i2
        clear hf hra hrb ho1 ho2 hap hia hib hbx e hz hr hlb
        go_wp2
        refine bodyPost_ret (results_tmp3 rfl _ _ _) rfl ?_
        exact ⟨_, _, [], [], 1, rfl, Lst.nil _, Lst.nil _, HX.out.1, .inr (.inl ⟨HK.out, HZ.out, rfl, rfl, rfl⟩)⟩
      | succ m =>
        have hnz : pf p b ≠ Po.ze := fun e => by
          have h1 := nf_top HK.out (hib.nf HK.out) (by intro h; rw [h] at hr; cases hr)
          rw [hib.pf HK.out, e] at h1
          exact h1 rfl
        have i3 : ¬ ((rb.length : Int) = 0) := by omega
        have hbm : rb.getD m 0 % p ≠ 0 := by rw [getD_lt _ (by omega)]; exact last_ne (hib.nf HK.out) hr
        have HO := Lib.hid (And.intro ho1 (And.intro ho2 (And.intro hap (And.intro hia (And.intro hib (And.intro hnz (And.intro hr hbm)))))))
        rw [hr] at i2 i3
        have i4 : ¬ (rb.length = 0) := by omega
        clear hf hra hrb ho1 ho2 hap hia hib hbx hnz hbm
        rw [hr] at i4
        go_wp2_with (go_at_call 59; refine (divide_w p HK.out W.heap.size _ _ ra rb m _ wx HO.out.1 (by have := HO.out.2.1.lst; rwa [hr] at this) (by have := HO.out.2.2.1; rwa [hr] at this) (HO.out.2.2.2.1.nf HK.out) hr rfl HO.out.2.2.2.2.2.2.2 (by omega) (by omega)).mono ?_; rintro _ w4 ⟨v1, v2, r1, r2, rfl, hown1, hown2, hvb, hg, hdiv, hl1, hl2, hl3⟩)
        refine bodyPost_ret (results_tmp3 rfl _ _ _) rfl ?_
        refine ⟨_, _, r1, r2, 0, rfl, hown1.lst, hown2.lst, ?_, .inr (.inr ⟨HK.out, HO.out.2.2.2.2.2.1, rfl, by omega, by omega, ?_⟩)⟩
        · exact Below.next (Nat.le_refl _) HB.out (Below.wrote HX.out.2 (Nat.le_refl _) HX.out.2.size HO.out.1 hg)
        · obtain ⟨u, r, h1, h2, h3⟩ := hdiv
          rw [HO.out.2.2.2.1.pf HK.out, HO.out.2.2.2.2.1.pf HK.out] at h3
          exact ⟨u, r, h1, h2, h3⟩
  · have hk : known p = false := by simpa using hk
    have HK := Lib.hid hk
    clear hk
    go_enter Try.func31, Try.ntmps31
    go_wp2_with (go_at_call 58; refine (valid_any _ _).mono ?_; rintro e w1 ⟨rfl, hb1⟩; rw [HK.out])
    refine bodyPost_ret (results_tmp3 rfl _ _ _) rfl ?_
    exact ⟨_, _, [], [], 7, rfl, Lst.nil _, Lst.nil _, Below.next (Nat.le_refl _) (Below.made (Nat.le_refl _) (Below.refl _ _) _) hb1.b, .inl ⟨HK.out, rfl, rfl, rfl⟩⟩

end Go.Proofs.Ytgdnkbigdggbaaa
