/- The walk of the statement on the value. -/
import Derived.Test.YtgdnkbigdggbaaaLP5
namespace Go.Proofs.Ytgdnkbigdggbaaa
open Go.RowKit Go.BigFrame

theorem ev_long {p : Int} (hk : known p = true) {r : List Int} {f : Nat → Fin (Q p)} (h : Is p r f) {m : Nat} (hd : Po.Deg f m) (z : Fin (Q p)) : Po.ev (pf p r) z r.length = Po.ev f z m := by
  have h1 := h.len hd
  have h2 : Po.Deg f r.length := by rw [← h.pf hk]; exact pf_deg hk r
  rw [h.pf hk]
  exact (Po.ev_any h2 h1 z).symm
theorem ev_mul {p : Int} {a b r : List Int} (h : Is p r (Po.cv (pf p a) (pf p b))) (z : Fin (Q p)) :
    ival p (Po.ev (pf p r) z r.length) = ml p (ival p (Po.ev (pf p a) z a.length)) (ival p (Po.ev (pf p b) z b.length)) := by
  refine (ival_of (fun hk => ⟨ml_bd hk _ _, ?_⟩) fun hk => by rw [ml, hk]; rfl).symm
  rw [ph_ml hk, ph_ival hk, ph_ival hk, ev_long hk h (mul_deg hk a b), Po.ev_cv (pf_deg hk a) (pf_deg hk b)]
theorem ev_add {p : Int} {a b r : List Int} {m : Nat} (ha : a.length ≤ m) (hb : b.length ≤ m) (h : Is p r (Po.ad (pf p a) (pf p b))) (z : Fin (Q p)) :
    ival p (Po.ev (pf p r) z r.length) = ad p (ival p (Po.ev (pf p a) z a.length)) (ival p (Po.ev (pf p b) z b.length)) := by
  refine (ival_of (fun hk => ⟨ad_bd hk _ _, ?_⟩) fun hk => by rw [ad, hk]; rfl).symm
  rw [ph_ad hk, ph_ival hk, ph_ival hk, ev_long hk h (((pf_deg hk a).mono ha).ad ((pf_deg hk b).mono hb)), Po.ev_ad, Po.ev_any (pf_deg hk a) ha, Po.ev_any (pf_deg hk b) hb]

set_option maxRecDepth 100000 in
set_option maxHeartbeats 16000000 in
theorem law_peval (p x : Int) [hU : U p] [hx : U x] (va0 : Value) (a : List Int) (w : World) (hla0 : Lst w va0 a) (hna : a.length ≤ 9223372036854775807) :
    Calls Try.prog 6 #[.int .u64 p, va0, .int .u64 x] w fun e w' => e = .returned (.bool true) ∧ Below w.heap.size w w' := by
  obtain ⟨a0, c0, rfl⟩ := hla0.shape
  have HL := Lib.hid hla0
  clear hla0
  by_cases hs : a.length ≤ 24
  · have hd : decide (a.length ≤ 24) = true := decide_eq_true hs
    obtain ⟨y, hy⟩ : ∃ y, y = ival p (Po.ev (pf p a) (ph p x) a.length) := ⟨_, rfl⟩
    have hyU : U y := by rw [hy]; infer_instance
    have HY := Lib.hid hy
    clear hy
    go_enter Try.func6, Try.ntmps6
    go_upto_region 4 with (first | (go_at_call 12; refine (awake3_u _).mono ?_; rintro _ w1 ⟨rfl, hb1⟩) | (go_at_call 13; refine (few3_u _ _ _ _ (by omega)).mono ?_; rintro _ _ ⟨rfl, rfl⟩))
    refine name_world ?_
    intro W hW
    have hb : Below w.heap.size w W := by rw [hW]; exact Below.made (Nat.le_refl _) hb1 _
    have hf : W.cell? ⟨w1.heap.size, 0, none⟩ = some (.int .u64 p) := by rw [hW]; go_simp
    have HB := Lib.hid hb
    clear hW hb hb1
    go_wp2_with fail
    refine (oEval_u p x _ a _ (HL.out.hold HB.out) (by omega)).mono ?_
    rintro _ W ⟨rfl, hba⟩
    rw [← HY.out]
    replace hf := Below.hold hba hf
    replace HB := Lib.hid (Below.next (Nat.le_refl _) HB.out hba)
    clear hba
    have hcell := fun (w' : World) (h : Below W.heap.size W w') => Below.hold h hf
    have HA := Lib.hid (HL.out.hold HB.out)
    have F := Below.refl W.heap.size W
    clear hf
    go_wp2_with fail
    go_region_held3 (fun w' => Below W.heap.size W w')
      (repeat (first | assumption | refine Below.drew ?_ | refine Below.next (Nat.le_refl _) ?_ (by assumption)))
      (first
        | (go_at_call 28; refine (sEval_u p x _ a _ (HA.out.hold (by assumption)) (by omega)).mono ?_; rintro _ w2 ⟨rfl, hb2⟩; rw [← HY.out])
        | (go_at_call 29; refine (rMul_u _ _ _ _).mono ?_; rintro _ w2 ⟨rfl, hb2⟩; replace hb2 := hb2.b)
        | (go_at_call 30; refine (rAdd_u _ _ _ _).mono ?_; rintro _ w2 ⟨rfl, hb2⟩; replace hb2 := hb2.b)
        | (go_at_call 25; refine (oMul_p p _ _ a a _ (HA.out.hold (by assumption)) (HA.out.hold (by assumption)) (by omega) (by omega)).mono ?_; rintro _ w2 ⟨vM, rM, rfl, hlM, hiM, hb2⟩; have hnM : rM.length ≤ 48 := hiM.bound fun hk => (mul_deg hk a a).mono (by omega); replace hiM := ev_mul hiM (ph p x); rw [← HY.out] at hiM; replace hiM := Lib.hid hiM)
        | (go_at_call 19; refine (oAdd_p p _ _ a a _ (HA.out.hold (by assumption)) (HA.out.hold (by assumption)) (by omega) (by omega)).mono ?_; rintro _ w2 ⟨vA, rA, rfl, hlA, hiA, hb2⟩; have hnA : rA.length ≤ 48 := hiA.bound fun hk => ((pf_deg hk a).ad (pf_deg hk a)).mono (by omega); replace hiA := ev_add (Nat.le_refl _) (Nat.le_refl _) hiA (ph p x); rw [← HY.out] at hiA; replace hiA := Lib.hid hiA)
        | (go_at_call 27; refine (oEval_u p x _ rA _ (hlA.hold (by repeat (first | assumption | exact Below.refl _ _ | refine Below.drew ?_ | refine Below.next (Nat.le_refl _) ?_ (by assumption)))) (by omega)).mono ?_; rintro _ w2 ⟨rfl, hb2⟩; rw [hiA.out])
        | (go_at_call 27; refine (oEval_u p x _ rM _ (hlM.hold (by repeat (first | assumption | exact Below.refl _ _ | refine Below.drew ?_ | refine Below.next (Nat.le_refl _) ?_ (by assumption)))) (by omega)).mono ?_; rintro _ w2 ⟨rfl, hb2⟩; rw [hiM.out]))
    all_goals
      go_wp2
      go_ret
      exact ⟨by simp, Below.next (Nat.le_refl _) HB.out (by repeat (first | assumption | refine Below.drew ?_ | refine Below.next (Nat.le_refl _) ?_ (by assumption)))⟩
  · have hd : decide (a.length ≤ 24) = false := decide_eq_false hs
    go_enter Try.func6, Try.ntmps6
    go_upto_region 2 with (first | (go_at_call 12; refine (awake3_u _).mono ?_; rintro _ w1 ⟨rfl, hb1⟩) | (go_at_call 13; refine (few3_u _ _ _ _ (by omega)).mono ?_; rintro _ _ ⟨rfl, rfl⟩))
    have HB := Lib.hid hb1
    clear hb1
    go_wp2_with (first | (go_at_call 12; refine (awake3_u _).mono ?_; rintro _ w1 ⟨rfl, hb1⟩))
    go_ret
    exact ⟨rfl, Below.next (Nat.le_refl _) HB.out hb1⟩
end Go.Proofs.Ytgdnkbigdggbaaa
