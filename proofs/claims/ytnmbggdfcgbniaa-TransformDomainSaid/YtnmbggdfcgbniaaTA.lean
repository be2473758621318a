/- What package transform returns, and the walks of the reference's Length, Domain, Eval. -/
import Derived.Test.YtnmbggdfcgbniaaOB
import Derived.Test.YtnmbggdfcgbniaaDft
import Derived.Test.YtnmbggdfcgbniaaLawE
namespace Go.Proofs.Ytnmbggdfcgbniaa
open Go.RowKit Go.BigFrame
open Classical

/-- n is a valid length. -/
def LenOk (p n : Int) : Prop := RootOk p n ∧ n ≤ 4096
/-- The root of a length. -/
def rtw (p n : Int) : Int := pw p (gen p) ((p - 1) / n)
instance {p n : Int} : U (rtw p n) := instUpw
/-- A point of a domain. -/
def dpt (p s n : Int) (i : Nat) : Fin (Q p) := Po.dom (ph p s) (ph p (rtw p n)) i
noncomputable def errD (p s n : Int) : Int := if known p = true then (if LenOk p n ∧ s % p ≠ 0 then 0 else 1) else 7
def domL (p s n : Int) : List Int := (List.range n.toNat).map fun i => ival p (dpt p s n i)
noncomputable def resD (p s n : Int) : List Int := if errD p s n = 0 then domL p s n else []
/-- A list and an error are returned. -/
def Pair (w : World) (l : List Int) (er : Int) (e : Ending) (w' : World) : Prop := ∃ v, e = .returned (.tuple #[v, .int .i64 er]) ∧ Own w' w.heap.size v l ∧ Below w.heap.size w w'

theorem errD_ok {p s n : Int} (hl : LenOk p n) (hs : s % p ≠ 0) : errD p s n = 0 := by rw [errD, if_pos hl.1.1, if_pos ⟨hl, hs⟩]
theorem errD_zero {p s n : Int} : errD p s n = 0 ↔ LenOk p n ∧ s % p ≠ 0 := by
  unfold errD
  by_cases hk : known p = true
  · rw [if_pos hk]
    by_cases h : LenOk p n ∧ s % p ≠ 0
    · rw [if_pos h]; exact ⟨fun _ => h, fun _ => rfl⟩
    · rw [if_neg h]; exact ⟨fun e => by omega, fun h' => absurd h' h⟩
  · rw [if_neg hk]; exact ⟨fun e => by omega, fun h => absurd h.1.1.1 hk⟩
theorem ival_mul {p : Int} (hk : known p = true) (a b : Int) : ml p a b = ival p (ph p a * ph p b) := by
  refine ival_of (fun _ => ⟨?_, ph_ml hk a b⟩) fun h => by rw [hk] at h; cases h
  rw [ml, if_pos hk]
  have := known_lo hk
  exact ⟨Int.emod_nonneg _ (by omega), Int.emod_lt_of_pos _ (by omega)⟩
theorem ival_ph {p : Int} (hk : known p = true) (a : Int) : a % p = ival p (ph p a) := by
  refine ival_of (fun _ => ⟨?_, ph_emod hk a⟩) fun h => by rw [hk] at h; cases h
  have := known_lo hk
  exact ⟨Int.emod_nonneg _ (by omega), Int.emod_lt_of_pos _ (by omega)⟩

set_option maxHeartbeats 1000000 in
theorem uLength_yes (p n : Int) (h : LenOk p n) (w : World) : Calls Try.prog 23 #[.int .u64 p, .int .i64 n] w fun e w' => e = .returned (.bool true) ∧ Nw w.heap.size w w' := by
  have hn := h.2
  have HH := Lib.hid h
  clear h
  go_enter Try.func23, Try.ntmps23
  go_wp2_with (go_at_call 32; refine (rRoot_yes p n HH.out.1 (by omega) _).mono ?_; rintro e w1 ⟨rfl, hb1⟩)
  go_ret
  exact ⟨rfl, by (repeat (first | exact Nw.refl _ _ | assumption | refine Nw.next (Nat.le_refl _) ?_ (by assumption)))⟩
set_option maxHeartbeats 1000000 in
theorem uLength_no (p n : Int) (h : ¬ LenOk p n) (hn0 : -9223372036854775808 ≤ n) (hn1 : n ≤ 9223372036854775807) (w : World) : Calls Try.prog 23 #[.int .u64 p, .int .i64 n] w fun e w' => e = .returned (.bool false) ∧ Nw w.heap.size w w' := by
  by_cases hr : RootOk p n
  · have hn : ¬ n ≤ 4096 := fun hh => h ⟨hr, hh⟩
    have hd : decide (n ≤ 4096) = false := decide_eq_false hn
    have HH := Lib.hid hr
    clear h hr
    go_enter Try.func23, Try.ntmps23
    go_wp2_with (go_at_call 32; refine (rRoot_yes p n HH.out (by omega) _).mono ?_; rintro e w1 ⟨rfl, hb1⟩)
    go_ret
    exact ⟨rfl, by (repeat (first | exact Nw.refl _ _ | assumption | refine Nw.next (Nat.le_refl _) ?_ (by assumption)))⟩
  · have HH := Lib.hid hr
    clear h hr
    go_enter Try.func23, Try.ntmps23
    go_wp2_with (go_at_call 32; refine (rRoot_no p n HH.out hn0 hn1 _).mono ?_; rintro e w1 ⟨rfl, hb1⟩)
    go_ret
    exact ⟨rfl, by (repeat (first | exact Nw.refl _ _ | assumption | refine Nw.next (Nat.le_refl _) ?_ (by assumption)))⟩

theorem dpt_zero (p s n : Int) : dpt p s n 0 = ph p s := by show ph p s * 1 = ph p s; grind
theorem dpt_succ {p : Int} (hk : known p = true) (s n : Int) (k : Nat) : ml p (ival p (dpt p s n k)) (rtw p n) = ival p (dpt p s n (k + 1)) := by
  rw [ival_mul hk, ph_ival hk]
  congr 1
  show ph p s * Po.pwF _ k * ph p (rtw p n) = ph p s * (Po.pwF _ k * ph p (rtw p n))
  grind
theorem domL_len (p s n : Int) : (domL p s n).length = n.toNat := by simp [domL]
theorem domL_take {p s n : Int} {k : Nat} (h : k < n.toNat) : (domL p s n).take (k + 1) = (domL p s n).take k ++ [ival p (dpt p s n k)] := by
  rw [take_snoc (by rw [domL_len]; exact h)]
  simp [domL]

set_option maxHeartbeats 4000000 in
theorem uDomain_u (p s n : Int) [hs : U s] (hn0 : -9223372036854775808 ≤ n) (hn1 : n ≤ 9223372036854775807) (w : World) :
    Calls Try.prog 17 #[.int .u64 p, .int .u64 s, .int .i64 n] w (Pair w (resD p s n) (errD p s n)) := by
  by_cases hk : known p = true
  · have hpl := known_lo hk
    have hp0 : ¬ p = 0 := by omega
    have hp1 : (p == 0) = false := by simpa using hp0
    have hs0 := hs.lo
    have hs1 := hs.hi
    have ht : s.tmod p = s % p := Int.tmod_eq_emod_of_nonneg hs0
    have hm0 := Int.emod_nonneg s hp0
    have hm1 := Int.emod_lt_of_pos s (show 0 < p by omega)
    have hph := known_hi hk
    have hwr : IntKind.u64.wrap (s % p) = s % p := by rw [IntKind.wrap_u64]; omega
    by_cases hl : LenOk p n
    · by_cases hz : s % p = 0
      · have he : errD p s n = 1 := by rw [errD, if_pos hk, if_neg (fun h => h.2 hz)]
        have hr : resD p s n = [] := by rw [resD, if_neg (by rw [he]; decide)]
        rw [he, hr]
        have HK := Lib.hid (And.intro hk hl)
        clear he hr hk hl
        go_enter Try.func17, Try.ntmps17
        go_wp2_with (first
          | (go_at_call 22; refine (rValid_any _ _).mono ?_; rintro e w1 ⟨rfl, hb1⟩; rw [HK.out.1])
          | (go_at_call 23; refine (uLength_yes _ _ HK.out.2 _).mono ?_; rintro e w2 ⟨rfl, hb2⟩))
        refine bodyPost_ret (results_tmp2 rfl _ _ _) rfl ?_
        exact ⟨_, rfl, Own.nil _ _, Below.next (Nat.le_refl _) hb1.b hb2.b⟩
      · have he := errD_ok hl hz
        have hr : resD p s n = domL p s n := by rw [resD, if_pos he]
        rw [he, hr]
        have hn := hl.1.2.1
        have hn2 := hl.2
        obtain ⟨N, hN⟩ : ∃ N : Nat, n = (N : Int) := ⟨n.toNat, by omega⟩
        subst hN
        have HK := Lib.hid (And.intro hk hl)
        have h0 : s % p = ival p (dpt p s N 0) := by rw [dpt_zero, ival_ph hk]
        have HS := Lib.hid h0
        have hzb : (s % p == 0) = false := by simpa using hz
        clear he hr hk hl h0
        go_enter Try.func17, Try.ntmps17
        go_wp2_with (first
          | (go_at_call 22; refine (rValid_any _ _).mono ?_; rintro e w1 ⟨rfl, hb1⟩; rw [HK.out.1])
          | (go_at_call 23; refine (uLength_yes _ _ HK.out.2 _).mono ?_; rintro e w2 ⟨rfl, hb2⟩)
          | (go_at_call 32; refine (rRoot_yes _ _ HK.out.2.1 (by omega) _).mono ?_; rintro e w3 ⟨rfl, hb3⟩))
        have HB := Lib.hid (Below.next (Nat.le_refl _) (Below.next (Nat.le_refl _) hb1.b hb2.b) hb3.b)
        clear hb1 hb2 hb3
        go_loopw [10, 11, 12] (fun xv ov iv wr => ∃ k : Nat, iv = .int .i64 k ∧ xv = .int .u64 (ival p (dpt p s N k)) ∧ k ≤ N ∧ Own wr w3.heap.size ov ((domL p s N).take k) ∧ Below w3.heap.size w3 wr) (fun _ _ iv _ => N - (intOf iv).toNat)
        case atStart => exact ⟨0, rfl, by rw [HS.out], Nat.zero_le _, Own.nil _ _, Below.refl _ _⟩
        case round =>
          obtain ⟨k, rfl, rfl, hk, hown, hb⟩ := hrel
          have i0 : (0 : Int) ≤ (k : Int) := by omega
          by_cases hlt : k < N
          · have i1 : (k : Int) < (N : Int) := by omega
            have hd := dpt_succ HK.out.1 s N k
            have ht := domL_take (p := p) (s := s) (n := N) (k := k) (by omega)
            obtain ⟨y, hy⟩ : ∃ y, y = ival p (dpt p s N k) := ⟨_, rfl⟩
            have hyU : U y := by rw [hy]; infer_instance
            rw [← hy] at hd ht ⊢
            have HO := Lib.hid (And.intro hown (And.intro hb (And.intro hd ht)))
            clear hown hb hd ht hy
            go_wp2_with (first
              | (at_builtin; refine append_one rfl (.tmp 40) (.tmp 42) rfl w3.heap.size _ _ rfl HO.out.1 _ inferInstance rfl (by rw [List.length_take]; omega) HO.out.2.1.size ?_; intro v' w' hown' hb')
              | (go_at_call 27; refine (rMul_u p y (rtw p N) _).mono ?_; rintro e w4 ⟨rfl, hb4⟩))
            refine ⟨⟨k + 1, by go_num, by rw [HO.out.2.2.1], by omega, by rw [HO.out.2.2.2]; exact hown'.hold hb4.b, ?_⟩, by simp [intOf]; omega⟩
            exact Below.next (Nat.le_refl _) (HO.out.2.1.trans hb') hb4.b
          · obtain rfl : k = N := by omega
            have hl2 : (domL p s k).take k = domL p s k := List.take_of_length_le (by rw [domL_len]; omega)
            rw [hl2] at hown
            have HO := Lib.hid (And.intro hown hb)
            clear hown hb hl2
            go_wp2
            refine bodyPost_ret (results_tmp2 rfl _ _ _) rfl ?_
            exact ⟨_, rfl, HO.out.1.low HB.out.size, Below.next (Nat.le_refl _) HB.out HO.out.2⟩
    · have he : errD p s n = 1 := by rw [errD, if_pos hk, if_neg (fun h => hl h.1)]
      have hr : resD p s n = [] := by rw [resD, if_neg (by rw [he]; decide)]
      rw [he, hr]
      have HK := Lib.hid (And.intro hk hl)
      clear he hr hk hl
      go_enter Try.func17, Try.ntmps17
      go_wp2_with (first
        | (go_at_call 22; refine (rValid_any _ _).mono ?_; rintro e w1 ⟨rfl, hb1⟩; rw [HK.out.1])
        | (go_at_call 23; refine (uLength_no _ _ HK.out.2 hn0 hn1 _).mono ?_; rintro e w2 ⟨rfl, hb2⟩))
      refine bodyPost_ret (results_tmp2 rfl _ _ _) rfl ?_
      exact ⟨_, rfl, Own.nil _ _, Below.next (Nat.le_refl _) hb1.b hb2.b⟩
  · have hk : known p = false := by simpa using hk
    have he : errD p s n = 7 := by rw [errD, if_neg (by rw [hk]; decide)]
    have hr : resD p s n = [] := by rw [resD, if_neg (by rw [he]; decide)]
    rw [he, hr]
    have HK := Lib.hid hk
    clear he hr hk
    go_enter Try.func17, Try.ntmps17
    go_wp2_with (go_at_call 22; refine (rValid_any _ _).mono ?_; rintro e w1 ⟨rfl, hb1⟩; rw [HK.out])
    refine bodyPost_ret (results_tmp2 rfl _ _ _) rfl ?_
    exact ⟨_, rfl, Own.nil _ _, hb1.b⟩
end Go.Proofs.Ytnmbggdfcgbniaa
