/- What package transform returns, and the walks of the reference's Length, Domain, Eval. The walks of the reference's Eval, Evaluate, Same, Reduced. The walks of the reference's Same, Reduced, Interpolate. The walk of the reference's Interpolate (04). What package transform returns on the document's examples; lists that are written out. -/
import Derived.Test.YtnmbggdfcgbniaaOB
import Derived.Test.YtnmbggdfcgbniaaFft
import Derived.Test.YtnmbggdfcgbniaaLawE
namespace Go.Proofs.Ytnmbggdfcgbniaa
open Go.RowKit Go.BigFrame
open Classical

/-- n is a valid length. -/
def LenOk (p n : Int) : Prop := RootOk p n ∧ n ≤ 4096
/-- The root of a length. -/
def rtw (p n : Int) : Int := pw p (gen p) ((p - 1) / n)
instance {p n : Int} : U (rtw p n) := instUpw
/-- A point of a domain. -/
def dpt (p s n : Int) (i : Nat) : Fin (Q p) := Po.dom (ph p s) (ph p (rtw p n)) i
noncomputable def errD (p s n : Int) : Int := if known p = true then (if LenOk p n ∧ s % p ≠ 0 then 0 else 1) else 7
def domL (p s n : Int) : List Int := (List.range n.toNat).map fun i => ival p (dpt p s n i)
noncomputable def resD (p s n : Int) : List Int := if errD p s n = 0 then domL p s n else []
/-- A list and an error are returned. -/
def Pair (w : World) (l : List Int) (er : Int) (e : Ending) (w' : World) : Prop := ∃ v, e = .returned (.tuple #[v, .int .i64 er]) ∧ Own w' w.heap.size v l ∧ Below w.heap.size w w'

theorem errD_ok {p s n : Int} (hl : LenOk p n) (hs : s % p ≠ 0) : errD p s n = 0 := by rw [errD, if_pos hl.1.1, if_pos ⟨hl, hs⟩]
theorem errD_zero {p s n : Int} : errD p s n = 0 ↔ LenOk p n ∧ s % p ≠ 0 := by
  unfold errD
  by_cases hk : known p = true
  · rw [if_pos hk]
    by_cases h : LenOk p n ∧ s % p ≠ 0
    · rw [if_pos h]; exact ⟨fun _ => h, fun _ => rfl⟩
    · rw [if_neg h]; exact ⟨fun e => by omega, fun h' => absurd h' h⟩
  · rw [if_neg hk]; exact ⟨fun e => by omega, fun h => absurd h.1.1.1 hk⟩
theorem ival_mul {p : Int} (hk : known p = true) (a b : Int) : ml p a b = ival p (ph p a * ph p b) := by
  refine ival_of (fun _ => ⟨?_, ph_ml hk a b⟩) fun h => by rw [hk] at h; cases h
  rw [ml, if_pos hk]
  have := known_lo hk
  exact ⟨Int.emod_nonneg _ (by omega), Int.emod_lt_of_pos _ (by omega)⟩
theorem ival_ph {p : Int} (hk : known p = true) (a : Int) : a % p = ival p (ph p a) := by
  refine ival_of (fun _ => ⟨?_, ph_emod hk a⟩) fun h => by rw [hk] at h; cases h
  have := known_lo hk
  exact ⟨Int.emod_nonneg _ (by omega), Int.emod_lt_of_pos _ (by omega)⟩

set_option maxHeartbeats 1000000 in
theorem uLength_yes (p n : Int) (h : LenOk p n) (w : World) : Calls Try.prog 23 #[.int .u64 p, .int .i64 n] w fun e w' => e = .returned (.bool true) ∧ Nw w.heap.size w w' := by
  have hn := h.2
  have HH := Lib.hid h
  clear h
  go_enter Try.func23, Try.ntmps23
  go_wp2_with (go_at_call 32; refine (rRoot_yes p n HH.out.1 (by omega) _).mono ?_; rintro e w1 ⟨rfl, hb1⟩)
  go_ret
  exact ⟨rfl, by (repeat (first | exact Nw.refl _ _ | assumption | refine Nw.next (Nat.le_refl _) ?_ (by assumption)))⟩
set_option maxHeartbeats 1000000 in
theorem uLength_no (p n : Int) (h : ¬ LenOk p n) (hn0 : -9223372036854775808 ≤ n) (hn1 : n ≤ 9223372036854775807) (w : World) : Calls Try.prog 23 #[.int .u64 p, .int .i64 n] w fun e w' => e = .returned (.bool false) ∧ Nw w.heap.size w w' := by
  by_cases hr : RootOk p n
  · have hn : ¬ n ≤ 4096 := fun hh => h ⟨hr, hh⟩
    have hd : decide (n ≤ 4096) = false := decide_eq_false hn
    have HH := Lib.hid hr
    clear h hr
    go_enter Try.func23, Try.ntmps23
    go_wp2_with (go_at_call 32; refine (rRoot_yes p n HH.out (by omega) _).mono ?_; rintro e w1 ⟨rfl, hb1⟩)
    go_ret
    exact ⟨rfl, by (repeat (first | exact Nw.refl _ _ | assumption | refine Nw.next (Nat.le_refl _) ?_ (by assumption)))⟩
  · have HH := Lib.hid hr
    clear h hr
    go_enter Try.func23, Try.ntmps23
    go_wp2_with (go_at_call 32; refine (rRoot_no p n HH.out hn0 hn1 _).mono ?_; rintro e w1 ⟨rfl, hb1⟩)
    go_ret
    exact ⟨rfl, by (repeat (first | exact Nw.refl _ _ | assumption | refine Nw.next (Nat.le_refl _) ?_ (by assumption)))⟩

theorem dpt_zero (p s n : Int) : dpt p s n 0 = ph p s := by show ph p s * 1 = ph p s; grind
theorem dpt_succ {p : Int} (hk : known p = true) (s n : Int) (k : Nat) : ml p (ival p (dpt p s n k)) (rtw p n) = ival p (dpt p s n (k + 1)) := by
  rw [ival_mul hk, ph_ival hk]
  congr 1
  show ph p s * Po.pwF _ k * ph p (rtw p n) = ph p s * (Po.pwF _ k * ph p (rtw p n))
  grind
theorem domL_len (p s n : Int) : (domL p s n).length = n.toNat := by simp [domL]
theorem domL_take {p s n : Int} {k : Nat} (h : k < n.toNat) : (domL p s n).take (k + 1) = (domL p s n).take k ++ [ival p (dpt p s n k)] := by
  rw [take_snoc (by rw [domL_len]; exact h)]
  simp [domL]

set_option maxHeartbeats 4000000 in
theorem uDomain_u (p s n : Int) [hs : U s] (hn0 : -9223372036854775808 ≤ n) (hn1 : n ≤ 9223372036854775807) (w : World) :
    Calls Try.prog 17 #[.int .u64 p, .int .u64 s, .int .i64 n] w (Pair w (resD p s n) (errD p s n)) := by
  by_cases hk : known p = true
  · have hpl := known_lo hk
    have hp0 : ¬ p = 0 := by omega
    have hp1 : (p == 0) = false := by simpa using hp0
    have hs0 := hs.lo
    have hs1 := hs.hi
    have ht : s.tmod p = s % p := Int.tmod_eq_emod_of_nonneg hs0
    have hm0 := Int.emod_nonneg s hp0
    have hm1 := Int.emod_lt_of_pos s (show 0 < p by omega)
    have hph := known_hi hk
    have hwr : IntKind.u64.wrap (s % p) = s % p := by rw [IntKind.wrap_u64]; omega
    by_cases hl : LenOk p n
    · by_cases hz : s % p = 0
      · have he : errD p s n = 1 := by rw [errD, if_pos hk, if_neg (fun h => h.2 hz)]
        have hr : resD p s n = [] := by rw [resD, if_neg (by rw [he]; decide)]
        rw [he, hr]
        have HK := Lib.hid (And.intro hk hl)
        clear he hr hk hl
        go_enter Try.func17, Try.ntmps17
        go_wp2_with (first
          | (go_at_call 22; refine (rValid_any _ _).mono ?_; rintro e w1 ⟨rfl, hb1⟩; rw [HK.out.1])
          | (go_at_call 23; refine (uLength_yes _ _ HK.out.2 _).mono ?_; rintro e w2 ⟨rfl, hb2⟩))
        refine bodyPost_ret (results_tmp2 rfl _ _ _) rfl ?_
        exact ⟨_, rfl, Own.nil _ _, Below.next (Nat.le_refl _) hb1.b hb2.b⟩
      · have he := errD_ok hl hz
        have hr : resD p s n = domL p s n := by rw [resD, if_pos he]
        rw [he, hr]
        have hn := hl.1.2.1
        have hn2 := hl.2
        obtain ⟨N, hN⟩ : ∃ N : Nat, n = (N : Int) := ⟨n.toNat, by omega⟩
        subst hN
        have HK := Lib.hid (And.intro hk hl)
        have h0 : s % p = ival p (dpt p s N 0) := by rw [dpt_zero, ival_ph hk]
        have HS := Lib.hid h0
        have hzb : (s % p == 0) = false := by simpa using hz
        clear he hr hk hl h0
        go_enter Try.func17, Try.ntmps17
        go_wp2_with (first
          | (go_at_call 22; refine (rValid_any _ _).mono ?_; rintro e w1 ⟨rfl, hb1⟩; rw [HK.out.1])
          | (go_at_call 23; refine (uLength_yes _ _ HK.out.2 _).mono ?_; rintro e w2 ⟨rfl, hb2⟩)
          | (go_at_call 32; refine (rRoot_yes _ _ HK.out.2.1 (by omega) _).mono ?_; rintro e w3 ⟨rfl, hb3⟩))
        have HB := Lib.hid (Below.next (Nat.le_refl _) (Below.next (Nat.le_refl _) hb1.b hb2.b) hb3.b)
        clear hb1 hb2 hb3
        go_loopw [10, 11, 12] (fun xv ov iv wr => ∃ k : Nat, iv = .int .i64 k ∧ xv = .int .u64 (ival p (dpt p s N k)) ∧ k ≤ N ∧ Own wr w3.heap.size ov ((domL p s N).take k) ∧ Below w3.heap.size w3 wr) (fun _ _ iv _ => N - (intOf iv).toNat)
        case atStart => exact ⟨0, rfl, by rw [HS.out], Nat.zero_le _, Own.nil _ _, Below.refl _ _⟩
        case round =>
          obtain ⟨k, rfl, rfl, hk, hown, hb⟩ := hrel
          have i0 : (0 : Int) ≤ (k : Int) := by omega
          by_cases hlt : k < N
          · have i1 : (k : Int) < (N : Int) := by omega
            have hd := dpt_succ HK.out.1 s N k
            have ht := domL_take (p := p) (s := s) (n := N) (k := k) (by omega)
            obtain ⟨y, hy⟩ : ∃ y, y = ival p (dpt p s N k) := ⟨_, rfl⟩
            have hyU : U y := by rw [hy]; infer_instance
            rw [← hy] at hd ht ⊢
            have HO := Lib.hid (And.intro hown (And.intro hb (And.intro hd ht)))
            clear hown hb hd ht hy
            go_wp2_with (first
              | (at_builtin; refine append_one rfl (.tmp 40) (.tmp 42) rfl w3.heap.size _ _ rfl HO.out.1 _ inferInstance rfl (by rw [List.length_take]; omega) HO.out.2.1.size ?_; intro v' w' hown' hb')
              | (go_at_call 27; refine (rMul_u p y (rtw p N) _).mono ?_; rintro e w4 ⟨rfl, hb4⟩))
            refine ⟨⟨k + 1, by go_num, by rw [HO.out.2.2.1], by omega, by rw [HO.out.2.2.2]; exact hown'.hold hb4.b, ?_⟩, by simp [intOf]; omega⟩
            exact Below.next (Nat.le_refl _) (HO.out.2.1.trans hb') hb4.b
          · obtain rfl : k = N := by omega
            have hl2 : (domL p s k).take k = domL p s k := List.take_of_length_le (by rw [domL_len]; omega)
            rw [hl2] at hown
            have HO := Lib.hid (And.intro hown hb)
            clear hown hb hl2
            go_wp2
            refine bodyPost_ret (results_tmp2 rfl _ _ _) rfl ?_
            exact ⟨_, rfl, HO.out.1.low HB.out.size, Below.next (Nat.le_refl _) HB.out HO.out.2⟩
    · have he : errD p s n = 1 := by rw [errD, if_pos hk, if_neg (fun h => hl h.1)]
      have hr : resD p s n = [] := by rw [resD, if_neg (by rw [he]; decide)]
      rw [he, hr]
      have HK := Lib.hid (And.intro hk hl)
      clear he hr hk hl
      go_enter Try.func17, Try.ntmps17
      go_wp2_with (first
        | (go_at_call 22; refine (rValid_any _ _).mono ?_; rintro e w1 ⟨rfl, hb1⟩; rw [HK.out.1])
        | (go_at_call 23; refine (uLength_no _ _ HK.out.2 hn0 hn1 _).mono ?_; rintro e w2 ⟨rfl, hb2⟩))
      refine bodyPost_ret (results_tmp2 rfl _ _ _) rfl ?_
      exact ⟨_, rfl, Own.nil _ _, Below.next (Nat.le_refl _) hb1.b hb2.b⟩
  · have hk : known p = false := by simpa using hk
    have he : errD p s n = 7 := by rw [errD, if_neg (by rw [hk]; decide)]
    have hr : resD p s n = [] := by rw [resD, if_neg (by rw [he]; decide)]
    rw [he, hr]
    have HK := Lib.hid hk
    clear he hr hk
    go_enter Try.func17, Try.ntmps17
    go_wp2_with (go_at_call 22; refine (rValid_any _ _).mono ?_; rintro e w1 ⟨rfl, hb1⟩; rw [HK.out])
    refine bodyPost_ret (results_tmp2 rfl _ _ _) rfl ?_
    exact ⟨_, rfl, Own.nil _ _, hb1.b⟩
end Go.Proofs.Ytnmbggdfcgbniaa

namespace Go.Proofs.Ytnmbggdfcgbniaa
open Go.RowKit Go.BigFrame
open Classical

set_option maxHeartbeats 4000000 in
theorem uEval_u (p x : Int) [hx : U x] (v : Value) (l : List Int) (w : World) (hl : Lst w v l) (hn : l.length ≤ 100000) :
    Calls Try.prog 21 #[.int .u64 p, v, .int .u64 x] w fun e w' => e = .returned (.int .u64 (ival p (Po.ev (pf p l) (ph p x) l.length))) ∧ Below w.heap.size w w' := by
  obtain ⟨a0, c0, rfl⟩ := hl.shape
  have HL := Lib.hid hl
  clear hl
  go_enter Try.func21, Try.ntmps21
  go_wp2
  go_loopw [7, 8] (fun ov iv wr => ∃ k : Nat, k ≤ l.length ∧ iv = .int .i64 (((l.length - k : Nat) : Int) - 1) ∧ ov = .int .u64 (evh p l x k) ∧ Below w.heap.size w wr) (fun _ iv _ => (intOf iv + 1).toNat)
  case atStart => exact ⟨0, Nat.zero_le _, rfl, rfl, Below.refl _ _⟩
  case round =>
    obtain ⟨k, hk, rfl, rfl, hb⟩ := hrel
    obtain ⟨j, hj⟩ : ∃ j, j = l.length - k := ⟨_, rfl⟩
    rw [← hj]
    cases j with
    | zero =>
      obtain rfl : k = l.length := by omega
      rw [show ((0 : Nat) : Int) - 1 = -1 from rfl, evh_end]
      have HB := Lib.hid hb
      clear hj hk hb
      go_wp2
      go_ret
      exact ⟨rfl, HB.out⟩
    | succ q =>
      have hq : q < l.length := by omega
      have hql : l.length - 1 - k = q := by omega
      obtain ⟨b, o, c, e, hc⟩ := (HL.out.hold hb).cells q hq
      obtain ⟨rfl, rfl⟩ : a0 = some ⟨b, o, none⟩ ∧ c0 = c := by simp at e; exact e
      have hux := HL.out.us l[q] (List.getElem_mem hq)
      have hev : ad p (ml p (evh p l x k) x) l[q] = evh p l x (k + 1) := by rw [evh, hql, getD_lt _ hq]
      obtain ⟨y, hy⟩ : ∃ y, y = l[q] := ⟨_, rfl⟩
      obtain ⟨z, hz⟩ : ∃ z, z = evh p l x k := ⟨_, rfl⟩
      have hzU : U z := by rw [hz]; infer_instance
      rw [← hy] at hux hc hev
      rw [← hz] at hev ⊢
      have hk1 : k + 1 ≤ l.length := by omega
      have hkq : l.length - (k + 1) = q := by omega
      have HV := Lib.hid (And.intro hev (And.intro hb (And.intro hk1 hkq)))
      rw [show (((q + 1 : Nat) : Int) - 1) = (q : Int) by omega]
      have q0 : (0 : Int) ≤ (q : Int) := by omega
      have q1 : (q : Int) < (l.length : Int) := by omega
      have q2 : (q : Int) ≤ 100000 := by omega
      clear e hy hz hev hb hk1 hkq hj hk hql hq
      go_wp2_with fail
      have k0 := fun q : NwAt wr => q.nw.hold hc
      refine from_here ?_
      intro q
      refine wp_region_nw (by kernel_rfl) (by kernel_rfl) ?_
      repeat (go_big_quiet_step ((first | (go_at_call 27; exact nwAt_of (rMul_u _ _ _ _)) | (go_at_call 25; exact nwAt_of (rAdd_u _ _ _ _)))))
      refine wpQuiet_nil ?_
      clear q
      rintro _ ⟨q, rfl⟩
      rw [HV.out.1]
      go_wp2
      exact ⟨⟨k + 1, HV.out.2.2.1, by rw [HV.out.2.2.2], rfl, Below.next (Nat.le_refl _) HV.out.2.1 q.nw.b⟩, by first | (simp [intOf]; done) | (simp [intOf]; omega)⟩

noncomputable def errE (p : Int) (a : List Int) (s n : Int) : Int := if errD p s n = 0 then (if a.length ≤ 8192 then 0 else 3) else errD p s n
/-- The values at the points of a domain. -/
def evL (p : Int) (a : List Int) (s n : Int) : List Int := (List.range n.toNat).map fun i => ival p (Po.ev (pf p a) (dpt p s n i) a.length)
noncomputable def resE (p : Int) (a : List Int) (s n : Int) : List Int := if errE p a s n = 0 then evL p a s n else []
theorem errD_cases (p s n : Int) : errD p s n = 0 ∨ errD p s n = 1 ∨ errD p s n = 7 := by
  unfold errD
  split
  · split
    · exact .inl rfl
    · exact .inr (.inl rfl)
  · exact .inr (.inr rfl)
theorem updK_evL {p : Int} (a : List Int) (s n : Int) : updK (fun i => ival p (Po.ev (pf p a) (dpt p s n i) a.length)) (domL p s n) 0 (domL p s n).length = evL p a s n := by
  refine List.ext_getElem (by rw [updK_len, domL_len]; simp [evL]) fun i h1 h2 => ?_
  rw [updK_len] at h1
  simp only [updK, evL, List.getElem_map, List.getElem_range]
  rw [if_pos (by omega)]

set_option maxHeartbeats 4000000 in
theorem uEvaluate_u (p s n : Int) [hs : U s] (va : Value) (a : List Int) (w : World) (hla : Lst w va a) (hna : a.length ≤ 100000) (hn0 : -9223372036854775808 ≤ n) (hn1 : n ≤ 9223372036854775807) :
    Calls Try.prog 12 #[.int .u64 p, va, .int .u64 s, .int .i64 n] w (Pair w (resE p a s n) (errE p a s n)) := by
  obtain ⟨a0, c0, rfl⟩ := hla.shape
  have HL := Lib.hid hla
  clear hla
  by_cases he : errD p s n = 0
  · have hk := (errD_zero.1 he).1.1.1
    have hn4 := (errD_zero.1 he).1.2
    have hnp := (errD_zero.1 he).1.1.2.1
    have hr : resD p s n = domL p s n := by rw [resD, if_pos he]
    by_cases hl : a.length ≤ 8192
    · have h1 : errE p a s n = 0 := by rw [errE, if_pos he, if_pos hl]
      have h2 : resE p a s n = evL p a s n := by rw [resE, if_pos h1]
      rw [h1, h2]
      obtain ⟨L, hL⟩ : ∃ L, L = domL p s n := ⟨_, rfl⟩
      have hLn : L.length = n.toNat := by rw [hL, domL_len]
      have hup := updK_evL (p := p) a s n
      rw [← hL] at hup
      have hLv : ∀ i (h : i < L.length), L[i] = ival p (dpt p s n i) := fun i h => by subst hL; simp [domL]
      have HK := Lib.hid (And.intro hk (And.intro he (And.intro hr (And.intro hL (And.intro hup hLv)))))
      have i1 : (a.length : Int) ≤ 8192 := by omega
      have hL2 : (L.length : Int) ≤ 4096 := by omega
      have HLn := Lib.hid hLn
      clear h1 h2 he hr hL hup hLv hk hLn
      go_enter Try.func12, Try.ntmps12
      go_wp2_with (go_at_call 17; refine (uDomain_u p s n hn0 hn1 _).mono ?_; rintro _ w1 ⟨v1, rfl, hown, hb1⟩; rw [HK.out.2.1]; rw [HK.out.2.2.1, ← HK.out.2.2.2.1] at hown)
      obtain ⟨g, c, rfl⟩ : ∃ g c, v1 = .slice (some ⟨g, 0, none⟩) L.length c := by
        rcases hown.cases with ⟨_, e⟩ | ⟨g, c, e, _⟩
        · have hLn := HLn.out; rw [e] at hLn; simp at hLn; omega
        · exact ⟨g, c, e⟩
      have HO := Lib.hid (And.intro hown hb1)
      clear hown hb1
      go_loopw [12] (fun iv wr => ∃ k : Nat, iv = .int .i64 k ∧ k ≤ L.length ∧ Own wr w.heap.size (.slice (some ⟨g, 0, none⟩) L.length c) (updK (fun i => ival p (Po.ev (pf p a) (dpt p s n i) a.length)) L 0 k) ∧ Below w.heap.size w wr) (fun iv _ => L.length - (intOf iv).toNat)
      case atStart => exact ⟨0, rfl, Nat.zero_le _, by rw [updK_zero]; exact HO.out.1, HO.out.2⟩
      case round =>
        obtain ⟨k, rfl, hk, hown, hb⟩ := hrel
        have i0 : (0 : Int) ≤ (k : Int) := by omega
        by_cases hlt : k < L.length
        · have hc : wr.cell? ⟨g, k, none⟩ = some (.int .u64 L[k]) := by
            rw [hown.cell (by rw [updK_len]; exact hlt), updK_at0 hlt]
          have hz := hown.thawed k
          have hLk := HK.out.2.2.2.2.2 k hlt
          have hset := updK_set0 (f := fun i => ival p (Po.ev (pf p a) (dpt p s n i) a.length)) (L := L) (k := k)
          obtain ⟨x, hx⟩ : ∃ x, x = L[k] := ⟨_, rfl⟩
          rw [← hx] at hc hLk
          have hxU : U x := by rw [hLk]; infer_instance
          have hval : ival p (Po.ev (pf p a) (dpt p s n k) a.length) = ival p (Po.ev (pf p a) (ph p x) a.length) := by rw [hLk, ph_ival HK.out.1]
          have hset2 : (updK (fun i => ival p (Po.ev (pf p a) (dpt p s n i) a.length)) L 0 k).set k (ival p (Po.ev (pf p a) (ph p x) a.length)) = updK (fun i => ival p (Po.ev (pf p a) (dpt p s n i) a.length)) L 0 (k + 1) := by rw [← hval]; exact hset
          obtain ⟨y, hy⟩ : ∃ y, y = ival p (Po.ev (pf p a) (ph p x) a.length) := ⟨_, rfl⟩
          have hyU : U y := by rw [hy]; infer_instance
          rw [← hy] at hset2
          have i2 : (k : Int) < (L.length : Int) := by omega
          have HW := Lib.hid (And.intro hown (And.intro hb (And.intro hset2 hy)))
          clear hown hb hset hset2 hx hLk hval hy hlt
          go_wp2_with (go_at_call 21; refine (uEval_u p x _ a _ ((HL.out.hold HW.out.2.1)) (by omega)).mono ?_; rintro _ w2 ⟨rfl, hb2⟩; rw [← HW.out.2.2.2]; have hc2 := Below.hold hb2 hc; have hz2 := (hb2.frozen (p := ⟨g, k, none⟩) (World.block_lt_of_cell? _ _ hc)).trans hz)
          have hs := (HW.out.1.hold hb2).set k y
          refine ⟨⟨k + 1, by go_num, by omega, by rw [← HW.out.2.2.1]; exact hs.1, Below.wrote (Below.next (Nat.le_refl _) HW.out.2.1 hb2) (Nat.le_refl _) (Nat.le_trans HW.out.2.1.size hb2.size) (HW.out.1.hold hb2) hs.2⟩, by simp [intOf]; omega⟩
        · obtain rfl : k = L.length := by omega
          rw [HK.out.2.2.2.2.1] at hown
          have HW := Lib.hid (And.intro hown hb)
          clear hown hb
          go_wp2
          refine bodyPost_ret (results_tmp2 rfl _ _ _) rfl ?_
          exact ⟨_, rfl, HW.out.1, HW.out.2⟩
    · have h1 : errE p a s n = 3 := by rw [errE, if_pos he, if_neg hl]
      have h2 : resE p a s n = [] := by rw [resE, if_neg (by rw [h1]; decide)]
      rw [h1, h2]
      have HK := Lib.hid he
      have i1 : ¬ ((a.length : Int) ≤ 8192) := by omega
      clear h1 h2 he hr hk
      go_enter Try.func12, Try.ntmps12
      go_wp2_with (go_at_call 17; refine (uDomain_u p s n hn0 hn1 _).mono ?_; rintro _ w1 ⟨v1, rfl, hown, hb1⟩; rw [HK.out])
      refine bodyPost_ret (results_tmp2 rfl _ _ _) rfl ?_
      exact ⟨_, rfl, Own.nil _ _, hb1⟩
  · have h1 : errE p a s n = errD p s n := by rw [errE, if_neg he]
    have h2 : resE p a s n = [] := by rw [resE, if_neg (by rw [h1]; exact he)]
    rw [h1, h2]
    obtain ⟨er, her⟩ : ∃ er, er = errD p s n := ⟨_, rfl⟩
    rw [← her] at he ⊢
    have hne : (er != 0) = true := by simpa using he
    have HK := Lib.hid her
    clear h1 h2 her
    go_enter Try.func12, Try.ntmps12
    go_wp2_with (go_at_call 17; refine (uDomain_u p s n hn0 hn1 _).mono ?_; rintro _ w1 ⟨v1, rfl, hown, hb1⟩; rw [← HK.out])
    refine bodyPost_ret (results_tmp2 rfl _ _ _) rfl ?_
    exact ⟨_, rfl, Own.nil _ _, hb1⟩
end Go.Proofs.Ytnmbggdfcgbniaa

namespace Go.Proofs.Ytnmbggdfcgbniaa
open Go.RowKit Go.BigFrame
open Classical

theorem list_eq_iff {l m : List Int} (h : l.length = m.length) : l = m ↔ ∀ i, i < l.length → l.getD i 0 = m.getD i 0 := by
  constructor
  · rintro rfl i _; rfl
  · intro hh
    refine List.ext_getElem h fun i h1 h2 => ?_
    have := hh i h1
    rwa [getD_lt _ h1, getD_lt _ h2] at this

set_option maxHeartbeats 4000000 in
theorem uSame_u (va vb : Value) (l m : List Int) (w : World) (hla : Lst w va l) (hlb : Lst w vb m) (hnl : l.length ≤ 100000) (hnm : m.length ≤ 100000) :
    Calls Try.prog 15 #[va, vb] w fun e w' => e = .returned (.bool (decide (l = m))) ∧ Below w.heap.size w w' := by
  obtain ⟨a0, c0, rfl⟩ := hla.shape
  obtain ⟨a1, c1, rfl⟩ := hlb.shape
  have HL := Lib.hid (And.intro hla hlb)
  clear hla hlb
  have i1 : (l.length : Int) ≤ 100000 := by omega
  have i2 : (m.length : Int) ≤ 100000 := by omega
  by_cases hlen : l.length = m.length
  · have HN := Lib.hid hlen
    have hle : (m.length : Int) = (l.length : Int) := by omega
    have hlen2 := hlen.symm
    clear hlen
    go_enter Try.func15, Try.ntmps15
    go_wp2
    clear hle hlen2
    go_loopw [5] (fun iv wr => ∃ k : Nat, iv = .int .i64 k ∧ k ≤ l.length ∧ (∀ j, j < k → l.getD j 0 = m.getD j 0) ∧ Below w.heap.size w wr) (fun iv _ => l.length - (intOf iv).toNat)
    case atStart => exact ⟨0, rfl, Nat.zero_le _, fun j hj => by omega, Below.refl _ _⟩
    case round =>
      obtain ⟨k, rfl, hk, heq, hb⟩ := hrel
      have i0 : (0 : Int) ≤ (k : Int) := by omega
      by_cases hlt : k < l.length
      · have hlt2 : k < m.length := by have := HN.out; omega
        obtain ⟨b, o, c, e, hc⟩ := (HL.out.1.hold hb).cells k hlt
        obtain ⟨b', o', c', e', hc'⟩ := (HL.out.2.hold hb).cells k hlt2
        obtain ⟨rfl, rfl⟩ : a0 = some ⟨b, o, none⟩ ∧ c0 = c := by simp at e; exact e
        obtain ⟨rfl, rfl⟩ : a1 = some ⟨b', o', none⟩ ∧ c1 = c' := by simp at e'; exact e'
        have hx0 : l.getD k 0 = l[k] := getD_lt _ hlt
        have hy0 : m.getD k 0 = m[k] := getD_lt _ hlt2
        obtain ⟨x, hx⟩ : ∃ x, x = l[k] := ⟨_, rfl⟩
        obtain ⟨y, hy⟩ : ∃ y, y = m[k] := ⟨_, rfl⟩
        rw [← hx] at hc hx0
        rw [← hy] at hc' hy0
        have i3 : (k : Int) < (l.length : Int) := by omega
        have i4 : (k : Int) < (m.length : Int) := by omega
        have HE := Lib.hid (And.intro heq (And.intro hb (And.intro hx0 hy0)))
        have hltl := Lib.hid hlt
        clear heq hb hx0 hy0 hx hy e e' hlt hlt2
        go_upto_region 6 with fail
        rename World => wr
        have k0 := fun q : NwAt wr => q.nw.hold hc
        have k1 := fun q : NwAt wr => q.nw.hold hc'
        refine from_here ?_
        intro q
        refine wp_region_nw (by kernel_rfl) (by kernel_rfl) ?_
        repeat (go_big_quiet_step ((first | fail)))
        refine wpQuiet_nil ?_
        clear q
        rintro _ ⟨q, rfl⟩
        clear k0 k1
        by_cases hxy : x = y
        · have hb2 : (x != y) = false := by simpa using hxy
          have HXY := Lib.hid hxy
          clear hxy
          go_wp2
          refine ⟨⟨k + 1, by go_num, by have := hltl.out; omega, fun j hj => ?_, Below.next (Nat.le_refl _) HE.out.2.1 q.nw.b⟩, by have := hltl.out; simp [intOf]; omega⟩
          rcases Nat.lt_or_eq_of_le (Nat.le_of_lt_succ hj) with h1 | rfl
          · exact HE.out.1 j h1
          · rw [HE.out.2.2.1, HE.out.2.2.2, HXY.out]
        · have hb2 : (x != y) = true := by simpa using hxy
          have hd : decide (l = m) = false := decide_eq_false fun h => hxy (by rw [← HE.out.2.2.1, ← HE.out.2.2.2, h])
          have HD := Lib.hid hd
          clear hd hxy
          go_wp2
          go_ret
          exact ⟨by rw [HD.out]; rfl, Below.next (Nat.le_refl _) HE.out.2.1 q.nw.b⟩
      · obtain rfl : k = l.length := by omega
        have hd : decide (l = m) = true := decide_eq_true ((list_eq_iff HN.out).2 heq)
        have HD := Lib.hid hd
        have HE := Lib.hid hb
        clear hd heq hb
        go_wp2
        go_ret
        exact ⟨by rw [HD.out]; rfl, HE.out⟩
  · have hd : decide (l = m) = false := decide_eq_false fun h => hlen (by rw [h])
    rw [hd]
    have hle : ¬ ((l.length : Int) = (m.length : Int)) := by omega
    clear hd
    go_enter Try.func15, Try.ntmps15
    go_wp2
    go_ret
    exact ⟨rfl, Below.refl _ _⟩

set_option maxHeartbeats 4000000 in
theorem uReduced_u (p : Int) (hk : known p = true) (v : Value) (l : List Int) (w : World) (hl : Lst w v l) (hn : l.length ≤ 100000) :
    Calls Try.prog 24 #[.int .u64 p, v] w (Gives w (l.map (rd p))) := by
  obtain ⟨a0, c0, rfl⟩ := hl.shape
  have hpl := known_lo hk
  have hp0 : ¬ p = 0 := by omega
  have hp1 : (p == 0) = false := by simpa using hp0
  have hph := known_hi hk
  have HL := Lib.hid (And.intro hl hk)
  clear hl hk
  go_enter Try.func24, Try.ntmps24
  go_wp2
  go_loopw [5, 6] (fun ov iv wr => ∃ k : Nat, iv = .int .i64 k ∧ k ≤ l.length ∧ Own wr w.heap.size ov ((l.take k).map (rd p)) ∧ Below w.heap.size w wr) (fun _ iv _ => l.length - (intOf iv).toNat)
  case atStart => exact ⟨0, rfl, Nat.zero_le _, Own.nil _ _, Below.refl _ _⟩
  case round =>
    obtain ⟨k, rfl, hk, hown, hb⟩ := hrel
    have i0 : (0 : Int) ≤ (k : Int) := by omega
    have i2 : (l.length : Int) ≤ 100000 := by omega
    by_cases hlt : k < l.length
    · obtain ⟨b, o, c, e, hc⟩ := (HL.out.1.hold hb).cells k hlt
      obtain ⟨rfl, rfl⟩ : a0 = some ⟨b, o, none⟩ ∧ c0 = c := by simp at e; exact e
      have hux := HL.out.1.us l[k] (List.getElem_mem hlt)
      have htk : (l.take (k + 1)).map (rd p) = (l.take k).map (rd p) ++ [l[k] % p] := by
        rw [take_snoc hlt, List.map_append]
        congr 1
        show [rd p l[k]] = _
        rw [rd, if_pos HL.out.2]
      obtain ⟨x, hx⟩ : ∃ x, x = l[k] := ⟨_, rfl⟩
      rw [← hx] at hc hux htk
      have hx0 := hux.lo
      have hx1 := hux.hi
      have ht : x.tmod p = x % p := Int.tmod_eq_emod_of_nonneg hx0
      have hm0 := Int.emod_nonneg x hp0
      have hm1 := Int.emod_lt_of_pos x (show 0 < p by omega)
      have hwr : IntKind.u64.wrap (x % p) = x % p := by rw [IntKind.wrap_u64]; omega
      have hxm : U (x % p) := ⟨by omega, by omega⟩
      have i1 : (k : Int) < (l.length : Int) := by omega
      have HO := Lib.hid (And.intro hown (And.intro hb htk))
      clear hown hb htk e hx
      go_wp2_with (at_builtin; refine append_one rfl (.tmp 13) (.tmp 20) rfl w.heap.size _ _ rfl HO.out.1 _ inferInstance rfl (by simp; omega) HO.out.2.1.size ?_; intro v' w' hown' hb')
      exact ⟨⟨k + 1, by go_num, by omega, by rw [HO.out.2.2]; exact hown', HO.out.2.1.trans hb'⟩, by simp [intOf]; omega⟩
    · obtain rfl : k = l.length := by omega
      rw [List.take_length] at hown
      have HO := Lib.hid (And.intro hown hb)
      clear hown hb
      go_wp2
      go_ret
      exact ⟨_, rfl, HO.out.1, HO.out.2⟩
end Go.Proofs.Ytnmbggdfcgbniaa

namespace Go.Proofs.Ytnmbggdfcgbniaa
open Go.RowKit Go.BigFrame
open Classical

/-- The value at a power of the root. -/
def tval (p : Int) (v : List Int) (j : Nat) : Fin (Q p) := Po.ev (pf p v) (Po.pwF (ph p (rtw p v.length)) j) v.length
/-- The factor of the i-th coefficient. -/
def tfac (p s : Int) (n i : Nat) : Fin (Q p) := ph p (iv p n) * Po.pwF (ph p (iv p (s % p))) i
/-- The coefficients. -/
def intL (p s : Int) (v : List Int) : List Int := (List.range v.length).map fun i => ival p (tval p v ((v.length - i) % v.length) * tfac p s v.length i)
noncomputable def resI (p s : Int) (v : List Int) : List Int := if errD p s v.length = 0 then intL p s v else []
/-- The values in the reverse order. -/
def revL (p : Int) (v : List Int) : List Int := (List.range v.length).map fun i => ival p (tval p v ((v.length - i) % v.length))
theorem revL_len (p : Int) (v : List Int) : (revL p v).length = v.length := by simp [revL]
theorem revL_at {p : Int} {v : List Int} {i : Nat} (h : i < (revL p v).length) : (revL p v)[i] = ival p (tval p v ((v.length - i) % v.length)) := by simp [revL]
theorem dpt_one {p : Int} (hk : known p = true) (n : Int) (i : Nat) : dpt p 1 n i = Po.pwF (ph p (rtw p n)) i := by
  show ph p 1 * Po.pwF _ i = _
  rw [ph_one hk]; grind
theorem evL_at {p : Int} (hk : known p = true) (v : List Int) {i : Nat} (h : i < v.length) : (evL p v 1 v.length)[i]'(by simp [evL]; exact h) = ival p (tval p v i) := by
  simp only [evL, List.getElem_map, List.getElem_range, dpt_one hk]
  rfl
theorem evL_len (p : Int) (a : List Int) (s : Int) (n : Nat) : (evL p a s n).length = n := by simp [evL]
theorem one_mod {p : Int} (hk : known p = true) : (1 : Int) % p ≠ 0 := by
  have := known_lo hk
  rw [Int.emod_eq_of_lt (by omega) (by omega)]; decide
theorem tfac_succ {p : Int} (hk : known p = true) (s : Int) (n i : Nat) : ml p (ival p (tfac p s n i)) (iv p (s % p)) = ival p (tfac p s n (i + 1)) := by
  rw [ival_mul hk, ph_ival hk]
  congr 1
  show ph p (iv p n) * Po.pwF _ i * ph p (iv p (s % p)) = ph p (iv p n) * (Po.pwF _ i * ph p (iv p (s % p)))
  grind
theorem tfac_zero {p : Int} (hk : known p = true) (s : Int) (n : Nat) : iv p n = ival p (tfac p s n 0) := by
  refine ival_of (fun _ => ⟨?_, ?_⟩) fun h => by rw [hk] at h; cases h
  · have := known_lo hk
    show 0 ≤ pw p _ _ ∧ pw p _ _ < p
    rw [pw, if_pos hk]
    exact ⟨Int.emod_nonneg _ (by omega), Int.emod_lt_of_pos _ (by omega)⟩
  · show _ = ph p (iv p n) * 1
    grind
theorem updK_intL {p : Int} (hk : known p = true) (s : Int) (v : List Int) : updK (fun i => ml p ((revL p v).getD i 0) (ival p (tfac p s v.length i))) (revL p v) 0 (revL p v).length = intL p s v := by
  refine List.ext_getElem (by rw [updK_len, revL_len]; simp [intL]) fun i h1 h2 => ?_
  rw [updK_len] at h1
  simp only [updK, intL, List.getElem_map, List.getElem_range]
  rw [if_pos (by omega), getD_lt _ h1, revL_at h1, ival_mul hk, ph_ival hk, ph_ival hk]

set_option maxRecDepth 100000 in
set_option maxHeartbeats 8000000 in
theorem uInterpolate_u (p s : Int) [hU : U p] [hs : U s] (va : Value) (a : List Int) (w : World) (hla : Lst w va a) (hna : a.length ≤ 100000) :
    Calls Try.prog 14 #[.int .u64 p, va, .int .u64 s] w (Pair w (resI p s a) (errD p s a.length)) := by
  obtain ⟨a0, c0, rfl⟩ := hla.shape
  have HL := Lib.hid hla
  clear hla
  by_cases he : errD p s a.length = 0
  · have hk := (errD_zero.1 he).1.1.1
    have hn4 := (errD_zero.1 he).1.2
    have hnp := (errD_zero.1 he).1.1.2.1
    have hpl := known_lo hk
    have hph := known_hi hk
    have hp0 : ¬ p = 0 := by omega
    have hp1 : (p == 0) = false := by simpa using hp0
    have hs0 := hs.lo
    have hs1 := hs.hi
    have ht : s.tmod p = s % p := Int.tmod_eq_emod_of_nonneg hs0
    have hm0 := Int.emod_nonneg s hp0
    have hm1 := Int.emod_lt_of_pos s (show 0 < p by omega)
    have hwr : IntKind.u64.wrap (s % p) = s % p := by rw [IntKind.wrap_u64]; omega
    have hsU : U (s % p) := ⟨by omega, by omega⟩
    have hnU : U (a.length : Int) := ⟨by omega, by omega⟩
    have hnw : IntKind.u64.wrap (a.length : Int) = (a.length : Int) := by rw [IntKind.wrap_u64]; omega
    have h1 : errD p 1 a.length = 0 := errD_zero.2 ⟨(errD_zero.1 he).1, one_mod hk⟩
    have h2 : errE p a 1 a.length = 0 := by rw [errE, if_pos h1, if_pos (by omega)]
    have h3 : resE p a 1 a.length = evL p a 1 a.length := by rw [resE, if_pos h2]
    have h4 : resI p s a = intL p s a := by rw [resI, if_pos he]
    rw [he, h4]
    have HK := Lib.hid (And.intro hk (And.intro he (And.intro h2 h3)))
    have hn1 : (a.length : Int) ≤ 9223372036854775807 := by omega
    have hn0 : -9223372036854775808 ≤ (a.length : Int) := by omega
    clear h1 h2 h3 h4 he hk
    go_enter Try.func14, Try.ntmps14
    go_upto_region 6 with (first
      | (go_at_call 17; refine (uDomain_u p s a.length hn0 hn1 _).mono ?_; rintro _ w1 ⟨v1, rfl, hown1, hb1⟩; rw [HK.out.2.1])
      | (go_at_call 12; refine (uEvaluate_u p 1 a.length _ a _ (HL.out.hold hb1) (by omega) hn0 hn1).mono ?_; rintro _ w2 ⟨v2, rfl, hown2, hb2⟩; rw [HK.out.2.2.1]; rw [HK.out.2.2.2] at hown2))
    obtain ⟨N, hN⟩ : ∃ N, N = a.length := ⟨_, rfl⟩
    obtain ⟨E, hown2, hEl, hE⟩ : ∃ E : List Int, Own w2 w1.heap.size v2 E ∧ E.length = N ∧ ∀ i (h : i < E.length), E[i] = ival p (tval p a i) :=
      ⟨_, hown2, by rw [evL_len, hN], fun i h => evL_at HK.out.1 a (by rw [evL_len] at h; exact h)⟩
    obtain ⟨g, c, rfl⟩ : ∃ g c, v2 = .slice (some ⟨g, 0, none⟩) N c := by
      rcases hown2.cases with ⟨_, e⟩ | ⟨g, c, e, _⟩
      · rw [e] at hEl; simp at hEl; omega
      · rw [hEl] at e; exact ⟨g, c, e⟩
    obtain ⟨R, hRl, hR, hfin⟩ : ∃ R : List Int, R.length = N ∧ (∀ i (h : i < R.length), R[i] = ival p (tval p a ((N - i) % N))) ∧ updK (fun i => ml p (R.getD i 0) (ival p (tfac p s N i))) R 0 R.length = intL p s a :=
      ⟨revL p a, by rw [revL_len, hN], fun i h => by rw [revL_at h, hN], by have h := updK_intL HK.out.1 s a; rw [← hN] at h; exact h⟩
    have hz := tfac_zero HK.out.1 s N
    have hzs := fun i => tfac_succ HK.out.1 s N i
    have hx0 : U E[0] := hown2.us _ (List.getElem_mem (by omega))
    have hc0 := hown2.cell (i := 0) (by omega)
    have hR0 : R.take 1 = [E[0]] := by
      have h0 : 0 < R.length := by omega
      rw [take_snoc h0, hR 0 h0, hE 0 (by omega), Nat.sub_zero, Nat.mod_self]; rfl
    obtain ⟨x0, hx⟩ : ∃ x, x = E[0] := ⟨_, rfl⟩
    rw [← hx] at hx0 hc0 hR0
    have HM := Lib.hid (And.intro hEl (And.intro hE (And.intro hRl (And.intro hR (And.intro hfin (And.intro hz (And.intro hzs hR0)))))))
    have HO := Lib.hid (And.intro hown2 (Below.next (Nat.le_refl _) hb1 hb2))
    have hN4 : (N : Int) ≤ 4096 := by omega
    have hN1 : (1 : Int) ≤ (N : Int) := by omega
    have hNU : U (N : Int) := ⟨by omega, by omega⟩
    have hNw : IntKind.u64.wrap (N : Int) = (N : Int) := by rw [IntKind.wrap_u64]; omega
    rw [← hN]
    have HN := Lib.hid hN
    have hN2 : (N : Int) - 1 = ((N - 1 : Nat) : Int) := by omega
    clear hown2 hown1 hb1 hb2 hEl hE hRl hR hfin hz hzs hR0 hx hn4 hnp hnU hnw hn1 hn0 hN
    go_wp2
    go_loopw [13, 14] (fun rv jv wr => ∃ k : Nat, jv = .int .i64 ((N - 1 - k : Nat) : Int) ∧ k < N ∧ Own wr w2.heap.size rv (R.take (k + 1)) ∧ Below w2.heap.size w2 wr) (fun _ jv _ => (intOf jv).toNat)
    case atStart =>
      refine ⟨0, rfl, by omega, ?_, Below.made (Nat.le_refl _) (Below.refl _ _) _⟩
      rw [HM.out.2.2.2.2.2.2.2]
      exact own_of (l := [x0]) (Nat.le_refl _) (by simpa [vs] using heap_alloc_new w2 (.cells #[.int .u64 x0] 22)) (by simp) (fun y hy => by simp at hy; subst hy; exact hx0)
    case round =>
      obtain ⟨k, rfl, hk, hown, hb⟩ := hrel
      obtain ⟨j, hj⟩ : ∃ j, j = N - 1 - k := ⟨_, rfl⟩
      rw [← hj]
      cases j with
      | succ q =>
        have hqE : q + 1 < E.length := by have := HM.out.1; omega
        have hcq := (HO.out.1.hold hb).cell hqE
        have huq := HO.out.1.us _ (List.getElem_mem hqE)
        have hRk : R.take (k + 1 + 1) = R.take (k + 1) ++ [E[q + 1]] := by
          have h1 : k + 1 < R.length := by have := HM.out.2.2.1; omega
          rw [take_snoc h1, HM.out.2.2.2.1 _ h1, HM.out.2.1 _ hqE]
          congr 4
          rw [Nat.mod_eq_of_lt (by omega)]; omega
        obtain ⟨y, hy⟩ : ∃ y, y = E[q + 1] := ⟨_, rfl⟩
        rw [← hy] at hcq huq hRk
        have hkq : N - 1 - (k + 1) = q := by omega
        have hk2 : k + 1 < N := by omega
        have hrl : (R.take (k + 1)).length ≤ 1000000 := by rw [List.length_take]; omega
        have HW := Lib.hid (And.intro hown (And.intro hb (And.intro hRk (And.intro hkq (And.intro hk2 hrl)))))
        have i0 : (0 : Int) ≤ (q : Int) := by omega
        have i1 : (q : Int) + 1 < (N : Int) := by omega
        rw [show ((q + 1 : Nat) : Int) = (q : Int) + 1 by omega]
        clear hown hb hRk hkq hk2 hj hk hy hqE hrl hc0
        go_wp2_with (at_builtin; refine append_one rfl (.tmp 47) (.tmp 52) rfl w2.heap.size _ _ rfl HW.out.1 _ inferInstance rfl HW.out.2.2.2.2.2 HW.out.2.1.size ?_; intro v' w' hown' hb')
        exact ⟨⟨k + 1, by rw [HW.out.2.2.2.1], HW.out.2.2.2.2.1, by rw [HW.out.2.2.1]; exact hown', HW.out.2.1.trans hb'⟩, by first | (simp [intOf]; done) | (simp [intOf]; omega)⟩
      | zero =>
        have hkN : k + 1 = N := by omega
        rw [hkN, List.take_of_length_le (by have := HM.out.2.2.1; omega)] at hown
        have HW := Lib.hid (And.intro hown hb)
        clear hown hb hkN hj hk hc0
        go_wp2_with (first
          | (go_at_call 28; refine (rInv_u p _ _).mono ?_; rintro _ w3 ⟨rfl, hb3⟩; replace HW := Lib.hid (And.intro (HW.out.1.hold hb3.b) (Below.next (Nat.le_refl _) HW.out.2 hb3.b)); clear hb3))
        rename World => wz
        obtain ⟨g2, c2, rfl⟩ : ∃ g2 c2, u13 = .slice (some ⟨g2, 0, none⟩) N c2 := by
          have hRl := HM.out.2.2.1
          rcases HW.out.1.cases with ⟨_, e⟩ | ⟨g2, c2, e, _⟩
          · rw [e] at hRl; simp at hRl; omega
          · rw [hRl] at e; exact ⟨g2, c2, e⟩
        go_loopw [15, 17] (fun sv iv wr => ∃ k : Nat, iv = .int .i64 k ∧ k ≤ N ∧ sv = .int .u64 (ival p (tfac p s N k)) ∧ Own wr w2.heap.size (.slice (some ⟨g2, 0, none⟩) N c2) (updK (fun i => ml p (R.getD i 0) (ival p (tfac p s N i))) R 0 k) ∧ Below w2.heap.size w2 wr) (fun _ iv _ => N - (intOf iv).toNat)
        case atStart => exact ⟨0, rfl, Nat.zero_le _, by rw [HM.out.2.2.2.2.2.1], by rw [updK_zero]; exact HW.out.1, HW.out.2⟩
        case round =>
          obtain ⟨k, rfl, hk, rfl, hown, hb⟩ := hrel
          have i0 : (0 : Int) ≤ (k : Int) := by omega
          by_cases hlt : k < N
          · have hkR : k < R.length := by have := HM.out.2.2.1; omega
            have hc := hown.cell (i := k) (by rw [updK_len]; exact hkR)
            rw [updK_at0 hkR] at hc
            have hz := hown.thawed k
            have huR := HW.out.1.us _ (List.getElem_mem hkR)
            have hset := updK_set0 (f := fun i => ml p (R.getD i 0) (ival p (tfac p s N i))) (L := R) (k := k)
            rw [getD_lt _ hkR] at hset
            have hts := HM.out.2.2.2.2.2.2.1 k
            obtain ⟨x, hx⟩ : ∃ x, x = R[k] := ⟨_, rfl⟩
            rw [← hx] at hc huR hset
            obtain ⟨y, hy⟩ : ∃ y, y = ival p (tfac p s N k) := ⟨_, rfl⟩
            have hyU : U y := by rw [hy]; infer_instance
            rw [← hy] at hset hts ⊢
            have i1 : (k : Int) < (N : Int) := by omega
            have HV := Lib.hid (And.intro hown (And.intro hb (And.intro hset hts)))
            clear hown hb hset hts hx hy hkR
            go_upto_region 17 with (go_at_call 27; refine (rMul_u p _ _ _).mono ?_; rintro _ w4 ⟨rfl, hb4⟩; have hc4 := hb4.hold hc; have hz4 := (hb4.f _).trans hz; have HB4 := Lib.hid hb4.b; clear hb4)
            have hs := (HV.out.1.hold HB4.out).set k (ml p x y)
            have hbs := Below.wrote (Below.next (Nat.le_refl _) HV.out.2.1 HB4.out) (Nat.le_refl _) (Nat.le_trans HV.out.2.1.size HB4.out.size) (HV.out.1.hold HB4.out) hs.2
            rw [HV.out.2.2.1] at hs
            have HS := Lib.hid (And.intro hs.1 hbs)
            clear hs hbs hc4 hz4 hc hz
            go_wp2_with (go_at_call 27; refine (rMul_u p _ _ _).mono ?_; rintro _ w5 ⟨rfl, hb5⟩)
            exact ⟨⟨k + 1, by go_num, by omega, by rw [HV.out.2.2.2], HS.out.1.hold hb5.b, Below.next (Nat.le_refl _) HS.out.2 hb5.b⟩, by simp [intOf]; omega⟩
          · obtain rfl : k = N := by omega
            have hRl := HM.out.2.2.1
            have hf := HM.out.2.2.2.2.1
            rw [hRl] at hf
            rw [hf] at hown
            have HV := Lib.hid (And.intro hown hb)
            clear hown hb hRl hf
            go_wp2
            refine bodyPost_ret (results_tmp2 rfl _ _ _) rfl ?_
            exact ⟨_, rfl, HV.out.1.low HO.out.2.size, Below.next (Nat.le_refl _) HO.out.2 HV.out.2⟩
  · have h2 : resI p s a = [] := by rw [resI, if_neg he]
    rw [h2]
    obtain ⟨er, her⟩ : ∃ er, er = errD p s a.length := ⟨_, rfl⟩
    rw [← her] at he ⊢
    have hne : (er != 0) = true := by simpa using he
    have HK := Lib.hid her
    have hn1 : (a.length : Int) ≤ 9223372036854775807 := by omega
    have hn0 : -9223372036854775808 ≤ (a.length : Int) := by omega
    clear h2 her
    go_enter Try.func14, Try.ntmps14
    go_wp2_with (go_at_call 17; refine (uDomain_u p s a.length hn0 hn1 _).mono ?_; rintro _ w1 ⟨v1, rfl, hown, hb1⟩; rw [← HK.out])
    refine bodyPost_ret (results_tmp2 rfl _ _ _) rfl ?_
    exact ⟨_, rfl, Own.nil _ _, hb1⟩
end Go.Proofs.Ytnmbggdfcgbniaa

namespace Go.Proofs.Ytnmbggdfcgbniaa
open Go.RowKit Go.BigFrame
open Classical

/-- A list that is read, and an error. -/
def PairL (w : World) (l : List Int) (er : Int) (e : Ending) (w' : World) : Prop := ∃ v, e = .returned (.tuple #[v, .int .i64 er]) ∧ Lst w' v l ∧ Below w.heap.size w w'
theorem pairL_of {w : World} {l : List Int} {er : Int} (e : Ending) (w' : World) (h : Pair w l er e w') : PairL w l er e w' := by
  obtain ⟨v, he, ho, hb⟩ := h
  exact ⟨v, he, ho.lst, hb⟩
/-- The least power of two that is at least n. -/
def fitsN (n : Nat) : Nat := if n ≤ 1 then 1 else 2 ^ ((n - 1).log2 + 1)
/-- The product, with all its coefficients. -/
def mulL (p : Int) (a b : List Int) : List Int := (List.range (a.length + b.length - 1)).map fun i => ival p (Po.cv (pf p a) (pf p b) i)
noncomputable def errM (p : Int) (a b : List Int) : Int := if known p = true then (if a.length = 0 ∨ b.length = 0 ∨ LenOk p (fitsN (a.length + b.length - 1)) then 0 else 3) else 7
noncomputable def resM (p : Int) (a b : List Int) : List Int := if errM p a b = 0 ∧ a.length ≠ 0 ∧ b.length ≠ 0 then mulL p a b else []

theorem len_17_4 : LenOk 17 4 := ⟨⟨by decide, by decide, ⟨2, rfl⟩, by decide⟩, by decide⟩
theorem len_17_2 : LenOk 17 2 := ⟨⟨by decide, by decide, ⟨1, rfl⟩, by decide⟩, by decide⟩
theorem ex_errE : errE 17 [1, 2, 0, 0] 1 4 = 0 := by rw [errE, if_pos (errD_ok len_17_4 (by decide)), if_pos (by decide)]
theorem ex_resE : resE 17 [1, 2, 0, 0] 1 4 = [3, 10, 16, 9] := by rw [resE, if_pos ex_errE]; decide +kernel
theorem ex_errI : errD 17 1 4 = 0 := errD_ok len_17_4 (by decide)
theorem ex_resI : resI 17 1 [3, 10, 16, 9] = [1, 2, 0, 0] := by
  have h : errD 17 1 (([3, 10, 16, 9] : List Int).length : Int) = 0 := errD_ok len_17_4 (by decide)
  rw [resI, if_pos h]; decide +kernel
theorem ex_errD : errD 17 3 2 = 0 := errD_ok len_17_2 (by decide)
theorem ex_resD : resD 17 3 2 = [3, 14] := by rw [resD, if_pos ex_errD]; decide +kernel
theorem ex_errM : errM 17 [1, 2] [3, 1] = 0 := by
  rw [errM, if_pos (by decide), if_pos (.inr (.inr len_17_4))]
theorem ex_resM : resM 17 [1, 2] [3, 1] = [3, 7, 2] := by
  rw [resM, if_pos ⟨ex_errM, by decide, by decide⟩]; decide +kernel

theorem lit_of {w : World} {b : Nat} (hb : b = w.heap.size) (l : List Int) (hl : l.length ≤ 1000000) (hu : Us l) {cs : Array Value} (hc : cs = (vs l).toArray) : Lst (w.alloc (.cells cs 22)) (.slice (some ⟨b, 0, none⟩) l.length l.length) l := by
  subst hb hc
  exact (own_of (base := w.heap.size) (Nat.le_refl _) (heap_alloc_new w _) hl hu).lst
theorem us_small {l : List Int} (h : l.all (fun x => decide (0 ≤ x) && decide (x ≤ 1000)) = true) : Us l := fun x hx => by
  have := List.all_eq_true.1 h x hx
  simp at this
  exact ⟨this.1, by omega⟩
theorem Lst.over {w : World} {v : Value} {l : List Int} (h : Lst w v l) (o : Obj) : Lst (w.alloc o) v l := h.hold (Below.made (Nat.le_refl _) (Below.refl _ _) o)
end Go.Proofs.Ytnmbggdfcgbniaa
