/- The walk of the statement that the transform of a sum is the sum of the transforms. -/
import Derived.Test.YtnmbggdfcgbniaaTL
import Derived.Deep.RegionHeld3
import Derived.Deep.AppendLies
namespace Go.Proofs.Ytnmbggdfcgbniaa
open Go.RowKit Go.BigFrame
open Classical

theorem ival_add {p : Int} (hk : known p = true) (a b : Int) : ad p a b = ival p (ph p a + ph p b) := by
  refine ival_of (fun _ => ⟨?_, ph_ad hk a b⟩) fun h => by rw [hk] at h; cases h
  rw [ad, if_pos hk]
  have := known_lo hk
  exact ⟨Int.emod_nonneg _ (by omega), Int.emod_lt_of_pos _ (by omega)⟩
/-- The sums of the elements. -/
def sumL (p : Int) (a b : List Int) : List Int := (List.range a.length).map fun i => ad p (a.getD i 0) (b.getD i 0)
theorem sumL_len (p : Int) (a b : List Int) : (sumL p a b).length = a.length := by simp [sumL]
theorem sumL_take {p : Int} {a b : List Int} {k : Nat} (h : k < a.length) (h2 : k < b.length) : (sumL p a b).take (k + 1) = (sumL p a b).take k ++ [ad p a[k] b[k]] := by
  rw [take_snoc (by rw [sumL_len]; exact h)]
  simp [sumL, h, h2]
theorem sumL_pf {p : Int} (hk : known p = true) {a b : List Int} {i : Nat} (h : i < a.length) : pf p (sumL p a b) i = Po.ad (pf p a) (pf p b) i := by
  rw [pf_el _ (by rw [sumL_len]; exact h)]
  show ph p _ = ph p (a.getD i 0) + ph p (b.getD i 0)
  rw [← ph_ad hk]
  simp [sumL]
/-- The values of the sum are the sums of the values. -/
theorem sumL_values {p : Int} (hk : known p = true) {a b : List Int} (hab : b.length = a.length) (h1 : errD p 1 a.length = 0) :
    ∃ X Y Z : List Int, (X.length = a.length ∧ errE p a 1 a.length = 0 ∧ resE p a 1 a.length = X) ∧ (Y.length = a.length ∧ errE p b 1 b.length = 0 ∧ resE p b 1 b.length = Y) ∧
      (Z.length = a.length ∧ errE p (sumL p a b) 1 (sumL p a b).length = 0 ∧ resE p (sumL p a b) 1 (sumL p a b).length = Z) ∧ ∀ k (g1 : k < X.length) (g2 : k < Y.length) (g3 : k < Z.length), ad p X[k] Y[k] = Z[k] := by
  have hn := (errD_zero.1 h1).1.2
  have e1 := errE_zero (a := a) h1 (by omega)
  have e2 := errE_zero (a := b) h1 (by omega)
  have e3 := errE_zero (a := sumL p a b) h1 (by rw [sumL_len]; omega)
  refine ⟨evL p a 1 a.length, evL p b 1 a.length, evL p (sumL p a b) 1 a.length, ⟨evL_len _ _ _ _, e1, by rw [resE, if_pos e1]⟩, ⟨evL_len _ _ _ _, by rw [hab]; exact e2, by rw [hab, resE, if_pos e2]⟩,
    ⟨evL_len _ _ _ _, by rw [sumL_len]; exact e3, by rw [sumL_len, resE, if_pos e3]⟩, fun k g1 g2 g3 => ?_⟩
  simp only [evL, List.getElem_map, List.getElem_range, sumL_len, hab]
  rw [ival_add hk, ph_ival hk, ph_ival hk, ← Po.ev_ad]
  congr 1
  exact ev_first _ fun i hi => (sumL_pf hk hi).symm

/-- An element is appended, in a region that draws its order. -/
theorem append_step {ops : Array Oper} {o : Oper} {a : Act} {K : Act → World → Prop} {Q : Exit → Act → World → Prop} {E : Prop} {w : World} (hgd : o.guard = none) (s x : Operand)
    (ho : o.op = .call { callee := .builtin .append, args := #[s, x], argTypes := #[23, 23] })
    (base : Nat) (v : Value) (l : List Int) (hs : a.eval s = v) (hown : Own w base v l) (n : Int) (hn : U n) (H : Nat) (hx : a.eval x = .slice (some ⟨H, 0, none⟩) 1 1) (hc : w.cell? ⟨H, 0, none⟩ = some (.int .u64 n))
    (hl : l.length ≤ 1000000) (hbase : base ≤ w.heap.size)
    (h : ∀ v' w', Own w' base v' (l ++ [n]) → Below base w w' → K (a.put o.dst v') w') : if Region.wanted o (yielded ops a.tmps) = true then Oper.wp Try.prog o a w K Q else E := by
  obtain ⟨i0, hi, hz0, hz1, hz2⟩ := info_parts info_u64
  refine step_append_lies w hgd s x _ ho base 22 i0 (.int .u64 0) 1 8 Try.underlying23 hi hz0 hz1 hz2 rfl (by omega) v l.length (vs l) hs hown.row ⟨H, 0, none⟩ 1 1 [.int .u64 n] hx rfl ?_ (fun u hu => by simp at hu; subst hu; rfl) (by omega) (by unfold maxLen; omega) (by omega) hbase w.heap.size rfl ?_
  · intro j u hj
    match j, hj with
    | 0, hj => simp at hj; subst hj; simpa [Addr.add] using hc
  · intro g cap w' hown' hg _ _
    exact h _ w' ⟨by rw [vs_snoc]; simpa using hown', hown.us.snoc hn⟩ ((Below.refl _ _).grown hg hbase (fun k e => (hown.row.lt k e).1))

set_option maxRecDepth 100000 in
set_option maxHeartbeats 8000000 in
theorem law_tlinear (p : Int) [hU : U p] (va vb : Value) (a b : List Int) (w : World) (hla : Lst w va a) (hlb : Lst w vb b) (hna : a.length ≤ 9223372036854775807) :
    Calls Try.prog 8 #[.int .u64 p, va, vb] w fun e w' => e = .returned (.bool true) ∧ Below w.heap.size w w' := by
  obtain ⟨a0, c0, rfl⟩ := hla.shape
  obtain ⟨a1, c1, rfl⟩ := hlb.shape
  have HL := Lib.hid (And.intro hla hlb)
  clear hla hlb
  have u1 : U 1 := inferInstance
  by_cases hk : known p = true
  · by_cases hab : b.length = a.length
    · rw [hab] at HL ⊢
      by_cases h64 : a.length ≤ 64
      · have j1 : (a.length : Int) ≤ 64 := by omega
        by_cases hlen : LenOk p a.length
        · have h1 : errD p 1 a.length = 0 := errD_zero.2 ⟨hlen, one_mod hk⟩
          obtain ⟨X, Y, Z, hX, hY, hZ, hsum⟩ := sumL_values hk hab h1
          obtain ⟨S, hS⟩ : ∃ S, S = sumL p a b := ⟨_, rfl⟩
          have hSl : S.length = a.length := by rw [hS, sumL_len]
          have hSt : ∀ k (h : k < a.length) (h2 : k < b.length), S.take (k + 1) = S.take k ++ [ad p a[k] b[k]] := fun k h h2 => by rw [hS]; exact sumL_take h h2
          rw [← hS] at hZ
          have HX := Lib.hid (And.intro hX (And.intro hY (And.intro hZ (And.intro hsum (And.intro hk hlen)))))
          have HS := Lib.hid (And.intro hSl (And.intro hSt hab))
          clear hX hY hZ hsum hk hlen hS hSl hSt hab h1
          go_enter Try.func8, Try.ntmps8
          go_wp2_with fail
          refine (awake4_u _).mono ?_
          rintro _ w1 ⟨rfl, hb1⟩
          have HB1 := Lib.hid hb1
          clear hb1
          go_wp2_with fail
          refine (rValid_any p _).mono ?_
          rintro _ w2 ⟨rfl, hb2⟩
          rw [HX.out.2.2.2.2.1]
          have HB2 := Lib.hid (Below.next (Nat.le_refl _) HB1.out hb2.b)
          clear hb2
          go_wp2_with fail
          refine (uLength_yes p a.length HX.out.2.2.2.2.2 _).mono ?_
          rintro _ w3 ⟨rfl, hb3⟩
          have HB3 := Lib.hid (Below.next (Nat.le_refl _) HB2.out hb3.b)
          clear hb3
          go_upto_region 4 with fail
          refine name_world ?_
          intro W hW
          have hb4 : Below w3.heap.size w3 W := by rw [hW]; exact (Below.refl _ _).alloc (Nat.le_refl _) _
          have df : W.cell? ⟨w3.heap.size, 0, none⟩ = some (.int .u64 p) := by rw [hW]; go_simp
          clear hW
          have HB := Lib.hid (Below.next (Nat.le_refl _) HB3.out hb4)
          clear hb4
          go_wp2
          go_loopw [8, 48] (fun sv iv wr => ∃ k : Nat, iv = .int .i64 k ∧ k ≤ a.length ∧ Own wr W.heap.size sv (S.take k) ∧ Below W.heap.size W wr) (fun _ iv _ => a.length - (intOf iv).toNat)
          case atStart => exact ⟨0, rfl, Nat.zero_le _, Own.nil _ _, Below.refl _ _⟩
          case round =>
            obtain ⟨k, rfl, hk, hown, hb⟩ := hrel
            have i0 : (0 : Int) ≤ (k : Int) := by omega
            by_cases hlt : k < a.length
            · have hlt2 : k < b.length := by have := HS.out.2.2; omega
              obtain ⟨bx, ox, cx, e1, g1⟩ := (HL.out.1.hold HB.out).cells k hlt
              obtain ⟨by_, oy, cy, e2, g2⟩ := (HL.out.2.hold HB.out).cells k hlt2
              obtain ⟨rfl, -, rfl⟩ := Value.slice.inj e1
              obtain ⟨rfl, -, rfl⟩ := Value.slice.inj e2
              have hu1 := HL.out.1.us a[k] (List.getElem_mem hlt)
              have hu2 := HL.out.2.us b[k] (List.getElem_mem hlt2)
              have ht := HS.out.2.1 k hlt hlt2
              obtain ⟨x, hx⟩ : ∃ x, x = a[k] := ⟨_, rfl⟩
              obtain ⟨y, hy⟩ : ∃ y, y = b[k] := ⟨_, rfl⟩
              rw [← hx] at g1 hu1 ht
              rw [← hy] at g2 hu2 ht
              have i3 : (k : Int) < (a.length : Int) := by omega
              have hsl : (S.take k).length ≤ 1000000 := by rw [List.length_take]; omega
              have HV := Lib.hid (And.intro hown (And.intro ht hsl))
              have G0 := fun (w' : World) (h : Below W.heap.size W w') => Below.hold h g1
              have G1 := fun (w' : World) (h : Below W.heap.size W w') => Below.hold h g2
              clear hown ht hx hy e1 e2 hsl hlt2 g1 g2
              go_wp2_with fail
              go_region_held3 (fun w' => Below W.heap.size W w')
                (repeat (first | assumption | refine Below.drew ?_ | refine Below.made (Nat.le_refl _) ?_ _ | refine Below.next (Nat.le_refl _) ?_ (by assumption) | refine Below.trans ?_ (by assumption)))
                (first
                  | (go_at_call 25; refine (rAdd_u _ _ _ _).mono ?_; rintro _ w2 ⟨rfl, hb2⟩; replace hb2 := hb2.b)
                  | (refine append_step (by rfl) (.tmp 51) (.tmp 62) (by rfl) W.heap.size _ _ (by rfl) (HV.out.1.hold (by repeat (first | exact Below.refl _ _ | assumption | refine Below.drew ?_ | refine Below.made (Nat.le_refl _) ?_ _ | refine Below.next (Nat.le_refl _) ?_ (by assumption)))) (ad p x y) inferInstance w2.heap.size (by rfl) (by go_simp) HV.out.2.2
                      (Below.size (w := W) (by repeat (first | assumption | refine Below.drew ?_ | refine Below.made (Nat.le_refl _) ?_ _ | refine Below.next (Nat.le_refl _) ?_ (by assumption)))) ?_; intro v' w' hown' hb')
                  | fail)
              all_goals
                go_wp2
                refine ⟨⟨k + 1, by go_num, by omega, by rw [HV.out.2.1]; first | exact hown' | exact hown'.hold (by repeat (first | exact Below.refl _ _ | refine Below.drew ?_)), ?_⟩, by simp [intOf]; omega⟩
                repeat (first | assumption | refine Below.drew ?_ | refine Below.made (Nat.le_refl _) ?_ _ | refine Below.next (Nat.le_refl _) ?_ (by assumption) | refine Below.trans ?_ (by assumption))
            · obtain rfl : k = a.length := by omega
              rw [List.take_of_length_le (by have := HS.out.1; omega)] at hown
              have hl5 := hown.lst
              replace df := Below.hold hb df
              have HB5 := Lib.hid (Below.next (Nat.le_refl _) HB.out hb)
              have HL5 := Lib.hid hl5
              clear hown hb hl5
              go_wp2_with fail
              refine (tForward_p p _ a _ (HL.out.1.hold HB5.out) (by omega)).mono ?_
              rintro _ w6 ⟨v6, rfl, hl6, hb6⟩
              rw [HX.out.1.2.1]
              rw [HX.out.1.2.2] at hl6
              obtain ⟨a6, c6, rfl⟩ : ∃ a6 c6, v6 = .slice a6 a.length c6 := by obtain ⟨a6, c6, e⟩ := hl6.shape; exact ⟨a6, c6, by rw [e, HX.out.1.1]⟩
              replace df := Below.hold hb6 df
              have HB6 := Lib.hid (Below.next (Nat.le_refl _) HB5.out hb6)
              replace HL5 := Lib.hid (HL5.out.hold hb6)
              have HL6 := Lib.hid hl6
              clear hb6 hl6
              go_wp2_with fail
              refine (tForward_p p _ b _ (HL.out.2.hold HB6.out) (by have := HS.out.2.2; omega)).mono ?_
              rintro _ w7 ⟨v7, rfl, hl7, hb7⟩
              rw [HX.out.2.1.2.1]
              rw [HX.out.2.1.2.2] at hl7
              obtain ⟨a7, c7, rfl⟩ : ∃ a7 c7, v7 = .slice a7 a.length c7 := by obtain ⟨a7, c7, e⟩ := hl7.shape; exact ⟨a7, c7, by rw [e, HX.out.2.1.1]⟩
              replace df := Below.hold hb7 df
              have HB7 := Lib.hid (Below.next (Nat.le_refl _) HB6.out hb7)
              replace HL5 := Lib.hid (HL5.out.hold hb7)
              replace HL6 := Lib.hid (HL6.out.hold hb7)
              have HL7 := Lib.hid hl7
              clear hb7 hl7
              go_wp2_with fail
              refine (tForward_p p _ S _ HL5.out (by have := HS.out.1; omega)).mono ?_
              rintro _ w8 ⟨v8, rfl, hl8, hb8⟩
              rw [HX.out.2.2.1.2.1]
              rw [HX.out.2.2.1.2.2] at hl8
              obtain ⟨a8, c8, rfl⟩ : ∃ a8 c8, v8 = .slice a8 a.length c8 := by obtain ⟨a8, c8, e⟩ := hl8.shape; exact ⟨a8, c8, by rw [e, HX.out.2.2.1.1]⟩
              have HB8 := Lib.hid (Below.next (Nat.le_refl _) HB7.out hb8)
              replace HL6 := Lib.hid (HL6.out.hold hb8)
              replace HL7 := Lib.hid (HL7.out.hold hb8)
              have HL8 := Lib.hid hl8
              clear hb8 hl8 df HL5
              go_wp2
              go_loopw [116] (fun iv wr => ∃ k : Nat, iv = .int .i64 k ∧ k ≤ a.length ∧ Below w8.heap.size w8 wr) (fun iv _ => a.length - (intOf iv).toNat)
              case atStart => exact ⟨0, rfl, Nat.zero_le _, Below.refl _ _⟩
              case round =>
                obtain ⟨k, rfl, hk, hb⟩ := hrel
                have i0 : (0 : Int) ≤ (k : Int) := by omega
                by_cases hlt : k < a.length
                · have q1 : k < X.length := by have := HX.out.1.1; omega
                  have q2 : k < Y.length := by have := HX.out.2.1.1; omega
                  have q3 : k < Z.length := by have := HX.out.2.2.1.1; omega
                  obtain ⟨bx, ox, cx, e1, g1⟩ := (HL6.out.hold hb).cells k q1
                  obtain ⟨by_, oy, cy, e2, g2⟩ := (HL7.out.hold hb).cells k q2
                  obtain ⟨bz, oz, cz, e3, g3⟩ := (HL8.out.hold hb).cells k q3
                  obtain ⟨rfl, -, rfl⟩ := Value.slice.inj e1
                  obtain ⟨rfl, -, rfl⟩ := Value.slice.inj e2
                  obtain ⟨rfl, -, rfl⟩ := Value.slice.inj e3
                  have hu1 := HL6.out.us X[k] (List.getElem_mem q1)
                  have hu2 := HL7.out.us Y[k] (List.getElem_mem q2)
                  have hs := HX.out.2.2.2.1 k q1 q2 q3
                  obtain ⟨x, hx⟩ : ∃ x, x = X[k] := ⟨_, rfl⟩
                  obtain ⟨y, hy⟩ : ∃ y, y = Y[k] := ⟨_, rfl⟩
                  obtain ⟨z, hz⟩ : ∃ z, z = Z[k] := ⟨_, rfl⟩
                  rw [← hx] at g1 hu1 hs
                  rw [← hy] at g2 hu2 hs
                  rw [← hz] at g3 hs
                  have i3 : (k : Int) < (a.length : Int) := by omega
                  have HV := Lib.hid (And.intro hs hb)
                  clear hs hb hx hy hz e1 e2 e3 q1 q2 q3
                  go_wp2_with fail
                  have k0 := fun q : NwAt wr => q.nw.hold g1
                  have k1 := fun q : NwAt wr => q.nw.hold g2
                  have k2 := fun q : NwAt wr => q.nw.hold g3
                  refine from_here ?_
                  intro q
                  refine wp_region_nw (by kernel_rfl) (by kernel_rfl) ?_
                  repeat (go_big_quiet_step ((first | (go_at_call 25; exact nwAt_of (rAdd_u _ _ _ _)))))
                  refine wpQuiet_nil ?_
                  clear q
                  rintro _ ⟨q, rfl⟩
                  clear k0 k1 k2
                  rw [HV.out.1]
                  go_wp2
                  exact ⟨⟨k + 1, by go_num, by omega, Below.next (Nat.le_refl _) HV.out.2 q.nw.b⟩, by simp [intOf]; omega⟩
                · obtain rfl : k = a.length := by omega
                  have HW := Lib.hid hb
                  clear hb
                  go_wp2
                  go_ret
                  exact ⟨rfl, Below.next (Nat.le_refl _) HB8.out HW.out⟩
        · have HK := Lib.hid (And.intro hk hlen)
          have i1 : (a.length : Int) ≤ 9223372036854775807 := by omega
          have i2 : -9223372036854775808 ≤ (a.length : Int) := by omega
          clear hk hlen hab
          go_enter Try.func8, Try.ntmps8
          go_wp2_with fail
          refine (awake4_u _).mono ?_
          rintro _ w1 ⟨rfl, hb1⟩
          have HB1 := Lib.hid hb1
          clear hb1
          go_wp2_with fail
          refine (rValid_any p _).mono ?_
          rintro _ w2 ⟨rfl, hb2⟩
          rw [HK.out.1]
          have HB2 := Lib.hid (Below.next (Nat.le_refl _) HB1.out hb2.b)
          clear hb2
          go_wp2_with fail
          refine (uLength_no p a.length HK.out.2 i2 i1 _).mono ?_
          rintro _ w3 ⟨rfl, hb3⟩
          have HB3 := Lib.hid (Below.next (Nat.le_refl _) HB2.out hb3.b)
          clear hb3
          go_wp2_with fail
          refine (awake4_u _).mono ?_
          rintro _ w4 ⟨rfl, hb4⟩
          have HB4 := Lib.hid (Below.next (Nat.le_refl _) HB3.out hb4)
          clear hb4
          go_wp2
          go_ret
          exact ⟨rfl, HB4.out⟩
      · have j1 : ¬ (a.length : Int) ≤ 64 := by omega
        have HK := Lib.hid hk
        clear hk hab
        go_enter Try.func8, Try.ntmps8
        go_wp2_with fail
        refine (awake4_u _).mono ?_
        rintro _ w1 ⟨rfl, hb1⟩
        have HB1 := Lib.hid hb1
        clear hb1
        go_wp2_with fail
        refine (rValid_any p _).mono ?_
        rintro _ w2 ⟨rfl, hb2⟩
        rw [HK.out]
        have HB2 := Lib.hid (Below.next (Nat.le_refl _) HB1.out hb2.b)
        clear hb2
        go_wp2_with fail
        refine (awake4_u _).mono ?_
        rintro _ w3 ⟨rfl, hb3⟩
        have HB3 := Lib.hid (Below.next (Nat.le_refl _) HB2.out hb3)
        clear hb3
        go_wp2
        go_ret
        exact ⟨rfl, HB3.out⟩
    · have j1 : ¬ ((a.length : Int) = (b.length : Int)) := by omega
      have HK := Lib.hid hk
      clear hk hab
      go_enter Try.func8, Try.ntmps8
      go_wp2_with fail
      refine (awake4_u _).mono ?_
      rintro _ w1 ⟨rfl, hb1⟩
      have HB1 := Lib.hid hb1
      clear hb1
      go_wp2_with fail
      refine (rValid_any p _).mono ?_
      rintro _ w2 ⟨rfl, hb2⟩
      rw [HK.out]
      have HB2 := Lib.hid (Below.next (Nat.le_refl _) HB1.out hb2.b)
      clear hb2
      go_wp2_with fail
      refine (awake4_u _).mono ?_
      rintro _ w3 ⟨rfl, hb3⟩
      have HB3 := Lib.hid (Below.next (Nat.le_refl _) HB2.out hb3)
      clear hb3
      go_wp2
      go_ret
      exact ⟨rfl, HB3.out⟩
  · have hk : known p = false := by simpa using hk
    have HK := Lib.hid hk
    clear hk
    go_enter Try.func8, Try.ntmps8
    go_wp2_with fail
    refine (awake4_u _).mono ?_
    rintro _ w1 ⟨rfl, hb1⟩
    have HB1 := Lib.hid hb1
    clear hb1
    go_wp2_with fail
    refine (rValid_any p _).mono ?_
    rintro _ w2 ⟨rfl, hb2⟩
    rw [HK.out]
    have HB2 := Lib.hid (Below.next (Nat.le_refl _) HB1.out hb2.b)
    clear hb2
    go_wp2_with fail
    refine (awake4_u _).mono ?_
    rintro _ w3 ⟨rfl, hb3⟩
    have HB3 := Lib.hid (Below.next (Nat.le_refl _) HB2.out hb3)
    clear hb3
    go_wp2
    go_ret
    exact ⟨rfl, HB3.out⟩
end Go.Proofs.Ytnmbggdfcgbniaa
