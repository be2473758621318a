/- The walk of the statement on the three products. -/
import Derived.Test.YtdcdaclkeocfpaaAW
import Derived.Test.YtdcdaclkeocfpaaOQ
namespace Go.Proofs.Ytdcdaclkeocfpaa.Po
variable {q : Nat} [NeZero q]

theorem cv_sm (f g : Nat → Fin q) : ∀ i, cv f g i = sm (fun l => f l * g (i - l)) (i + 1)
  | 0 => by
    show f 0 * g 0 = 0 + f 0 * g 0
    grind
  | i + 1 => by
    rw [show i + 1 + 1 = 1 + (i + 1) by omega, sm_halves]
    show f 0 * g (i + 1) + cv (tl f) g i = (0 + f 0 * g (i + 1 - 0)) + _
    rw [cv_sm (tl f) g i]
    have e : sm (fun l => tl f l * g (i - l)) (i + 1) = sm (fun l => f (1 + l) * g (i + 1 - (1 + l))) (i + 1) := sm_congr fun l _ => by
      rw [show i + 1 - (1 + l) = i - l by omega, show 1 + l = l + 1 by omega]; rfl
    rw [e, Nat.sub_zero]; grind
theorem cv_tab (f : Nat → Fin q) {g : Nat → Fin q} {n : Nat} (hg : Deg g n) (i : Nat) : sm (fun l => (if l ≤ i then f (i - l) else 0) * g l) n = cv f g i := by
  rw [cv_comm, cv_sm g f i]
  obtain ⟨h, hh⟩ : ∃ h : Nat → Fin q, h = fun l => (if l ≤ i then f (i - l) else 0) * g l := ⟨_, rfl⟩
  have e1 : sm (fun l => g l * f (i - l)) (i + 1) = sm h (i + 1) := sm_congr fun l hl => by
    rw [hh]
    simp only []
    rw [if_pos (by omega)]; grind
  rw [e1, ← hh]
  have e2 := sm_halves h n (i + 1)
  have e3 := sm_halves h (i + 1) n
  rw [sm_congr (f := fun j => h (n + j)) (g := fun _ => 0) (fun j _ => by rw [hh]; simp only []; rw [hg (n + j) (by omega)]; grind), sm_zero] at e2
  rw [sm_congr (f := fun j => h (i + 1 + j)) (g := fun _ => 0) (fun j _ => by rw [hh]; simp only []; rw [if_neg (by omega)]; grind), sm_zero] at e3
  rw [show n + (i + 1) = i + 1 + n by omega] at e2
  rw [e2] at e3
  grind
end Go.Proofs.Ytdcdaclkeocfpaa.Po

namespace Go.Proofs.Ytdcdaclkeocfpaa
open Go.RowKit Go.BigFrame
open Classical

theorem set_same {L : List Int} {j : Nat} {x : Int} (h : j < L.length) (e : L[j] = x) : L.set j x = L := by subst e; exact List.set_getElem_self h

/-- Element l of the row i of the matrix of a's shifts. -/
def tf (a : List Int) (i l : Nat) : Int := if l ≤ i then a.getD (i - l) 0 else 0
def shM (a : List Int) (n l : Nat) : List (List Int) := (List.range l).map fun i => (List.range n).map (tf a i)
theorem shM_len (a : List Int) (n l : Nat) : (shM a n l).length = l := by simp [shM]
theorem shM_at (a : List Int) (n l : Nat) {i : Nat} (h : i < (shM a n l).length) : (shM a n l)[i] = (List.range n).map (tf a i) := by simp [shM]
theorem mf_shM {p : Int} (hk : known p = true) (a : List Int) {n l i j : Nat} (hi : i < l) (hj : j < n) : mf p (shM a n l) i j = if j ≤ i then pf p a (i - j) else 0 := by
  rw [mf_row (by rw [shM_len]; exact hi), shM_at, getD_lt _ (by simpa using hj)]
  simp only [List.getElem_map, List.getElem_range, tf]
  split
  · rfl
  · exact ph_zero hk
theorem shM_ok {p : Int} (hk : known p = true) (a : List Int) {n l : Nat} (h0 : 0 < l) (h64 : l ≤ 64) (hn : n ≤ 64) : OkM p (shM a n l) ∧ cols (shM a n l) = n := by
  have hr : ∀ i (h : i < (shM a n l).length), (shM a n l)[i].length = n := fun i h => by rw [shM_at]; simp
  have hc : cols (shM a n l) = n := by rw [cols_at (by rw [shM_len]; exact h0)]; exact hr 0 _
  exact ⟨⟨hk, fun i hi => by rw [hc, hr i hi]; exact ⟨rfl, hn⟩, by rw [shM_len]; exact h64⟩, hc⟩
/-- The matrix of the shifts multiplies. -/
theorem apL_shM {p : Int} (hk : known p = true) {a b : List Int} (ha : a.length ≠ 0) (hb : b.length ≠ 0) (ha2 : a.length ≤ 12) (hb2 : b.length ≤ 12) :
    apL p (shM a b.length (a.length + b.length - 1)) b = mulL p a b := by
  obtain ⟨h1, h2⟩ := shM_ok hk a (n := b.length) (l := a.length + b.length - 1) (by omega) (by omega) (by omega)
  unfold apL
  rw [if_pos ⟨h1, h2.symm⟩, h2, shM_len]
  unfold mulL
  refine List.map_congr_left fun i hi => ?_
  congr 1
  rw [← Po.cv_tab (pf p a) (pf_deg hk b) i]
  exact Po.sm_congr fun l hl => by rw [mf_shM hk a (List.mem_range.1 hi) hl]
theorem pf_mulL {p : Int} (hk : known p = true) {a b : List Int} (ha : a.length ≠ 0) (hb : b.length ≠ 0) : pf p (mulL p a b) = Po.cv (pf p a) (pf p b) := funext fun i => by
  by_cases hi : i < a.length + b.length - 1
  · rw [pf_el _ (by rw [mulL_len]; exact hi)]
    simp only [mulL, List.getElem_map, List.getElem_range, ph_ival hk]
  · obtain ⟨m, hm⟩ : ∃ m, a.length = m + 1 := ⟨a.length - 1, by omega⟩
    obtain ⟨n, hn⟩ : ∃ n, b.length = n + 1 := ⟨b.length - 1, by omega⟩
    have da := pf_deg hk a
    have db := pf_deg hk b
    rw [hm] at da
    rw [hn] at db
    rw [(Po.deg_cv da db).2 i (by omega)]
    exact pf_deg hk (mulL p a b) i (by rw [mulL_len]; omega)
theorem errM_two {p : Int} (hk : known p = true) (a b : List Int) (ha : a.length ≠ 0) (hb : b.length ≠ 0) : (errM p a b = 3 ∧ resM p a b = []) ∨ (errM p a b = 0 ∧ resM p a b = mulL p a b) := by
  by_cases h : LenOk p (fitsN (a.length + b.length - 1))
  · have e : errM p a b = 0 := by rw [errM, if_pos hk, if_pos (.inr (.inr h))]
    exact .inr ⟨e, by rw [resM, if_pos ⟨e, ha, hb⟩]⟩
  · have e : errM p a b = 3 := by rw [errM, if_pos hk, if_neg (by rintro (g | g | g); exact ha g; exact hb g; exact h g)]
    exact .inl ⟨e, by rw [resM, if_neg (by rw [e]; omega)]⟩

set_option maxRecDepth 100000 in
set_option maxHeartbeats 16000000 in
theorem law_jproducts (n0 : Int) (hn0 : 0 ≤ n0 ∧ n0 ≤ 255) (va vb : Value) (a b : List Int) (w : World) (hA : Lst w va a) (hB : Lst w vb b) (hn : a.length ≤ 9223372036854775807) (hm : b.length ≤ 9223372036854775807) :
    Calls Try.prog 14 #[.int .u8 n0, va, vb] w fun e w' => e = .returned (.bool true) ∧ Below w.heap.size w w' := by
  obtain ⟨a0, c0, rfl⟩ := hA.shape
  obtain ⟨a1, c1, rfl⟩ := hB.shape
  have HM := Lib.hid (And.intro hA hB)
  clear hA hB
  have hk := prime_known n0
  obtain ⟨p, hp⟩ : ∃ p, p = prime n0 := ⟨_, rfl⟩
  rw [← hp] at hk
  have HP := Lib.hid hp
  have HKn := Lib.hid hk
  have hU : U p := known_u hk
  clear hp hk
  go_enter Try.func14, Try.ntmps14
  go_upto_region 2 with (go_at_call 35; refine (rPrime_any n0 hn0.1 hn0.2 _).mono ?_; rintro _ w0 ⟨rfl, hb0⟩; rw [← HP.out])
  refine name_world ?_
  intro W hW
  have hf : W.cell? ⟨w0.heap.size, 0, none⟩ = some (.int .u64 p) := by rw [hW]; go_simp
  have hbW : Below w.heap.size w W := by rw [hW]; exact Below.made (Nat.le_refl _) hb0.b _
  have HBW := Lib.hid hbW
  clear hW hbW hb0
  by_cases ha2 : a.length ≤ 12
  · have i1 : ¬ (12 : Int) < (a.length : Int) := by omega
    by_cases hb2 : b.length ≤ 12
    · have i2 : ¬ (12 : Int) < (b.length : Int) := by omega
      by_cases ha0 : a.length ≠ 0
      · have i3 : ((a.length : Int) == 0) = false := beq_eq_false_iff_ne.2 (show (a.length : Int) ≠ 0 by omega)
        have i3' : ¬ (a.length : Int) = 0 := by omega
        by_cases hb0 : b.length ≠ 0
        · have i4 : ((b.length : Int) == 0) = false := beq_eq_false_iff_ne.2 (show (b.length : Int) ≠ 0 by omega)
          have i4' : ¬ (b.length : Int) = 0 := by omega
          have i5 : (a.length : Int) + (b.length : Int) - 1 = ((a.length + b.length - 1 : Nat) : Int) := by omega
          obtain ⟨l, hl⟩ : ∃ l, l = a.length + b.length - 1 := ⟨_, rfl⟩
          have hap := apL_shM HKn.out ha0 hb0 ha2 hb2
          obtain ⟨hFo, hFc⟩ := shM_ok HKn.out a (n := b.length) (l := l) (by omega) (by omega) (by omega)
          obtain ⟨F, hF⟩ : ∃ F, F = shM a b.length l := ⟨_, rfl⟩
          have hFl : F.length = l := by rw [hF, shM_len]
          have hFi : ∀ i (h : i < F.length), F[i] = updK (tf a i) (List.replicate b.length 0) 0 b.length := fun i h => by subst hF; rw [shM_at, upd_range]
          have hpm := pf_mulL HKn.out ha0 hb0
          have hem := errM_two HKn.out a b ha0 hb0
          rw [← hl] at i5 hap
          rw [← hF] at hap
          have hl1 : 1 ≤ l ∧ l ≤ 23 := by omega
          have i6 : (1 : Int) ≤ (l : Int) := by omega
          have i7 : (l : Int) ≤ 23 := by omega
          have i8 : (b.length : Int) ≤ 12 := by omega
          have i9 : (a.length : Int) ≤ 12 := by omega
          have HF := Lib.hid (And.intro hap (And.intro hFl (And.intro hFi (And.intro hpm (And.intro hem (show a.length + b.length - 1 = l from hl.symm))))))
          clear hap hFl hFi hpm hem hl hF hFo hFc
          go_upto_region 4 with (go_at_call 45; refine (awake05_u _).mono ?_; rintro _ w1 ⟨rfl, hb1⟩)
          have HB1 := Lib.hid (And.intro (Below.next (Nat.le_refl _) HBW.out hb1) (Below.hold hb1 hf))
          clear hb1 hf
          go_upto_region 6 with (at_make; refine make_rows rfl (.tmp 45) (.tmp 45) rfl w1.heap.size l rfl rfl (by omega) (Nat.le_refl _) ?_; intro v2 w2 hown2 hv2 hb2; subst hv2)
          have HO := Lib.hid (And.intro hown2 hb2)
          clear hown2 hb2
          obtain ⟨g, hg⟩ : ∃ g, g = w1.heap.size := ⟨_, rfl⟩
          rw [← hg] at HO ⊢
          have HG := Lib.hid hg
          clear hg
          have hB1 : ∀ x, Below g w1 x → Below w1.heap.size w1 x := fun x h => by rw [← HG.out]; exact h
          have hB2 : ∀ x, Below w1.heap.size w1 x → Below g w1 x := fun x h => by rw [HG.out]; exact h
          go_loopw [49] (fun iv wr => ∃ (i : Nat) (rs : Nat → Value), iv = .int .i64 i ∧ i ≤ l ∧ OwnM wr g (.slice (some ⟨g, 0, none⟩) l l) rs (fillL F i) ∧ Below g w1 wr) (fun iv _ => l - (intOf iv).toNat)
          case atStart => exact ⟨0, _, rfl, Nat.zero_le _, by rw [fillL_zero, HF.out.2.1]; exact HO.out.1, HO.out.2⟩
          case round =>
            obtain ⟨i, rs, rfl, hi, hown, hb⟩ := hrel
            have i0 : (0 : Int) ≤ (i : Int) := by omega
            have hFl := HF.out.2.1
            by_cases hlt : i < l
            · have i3 : (i : Int) < (l : Int) := by omega
              have hFS := fillL_set (F := F) (i := i) (by omega)
              rw [HF.out.2.2.1 i (by omega)] at hFS
              have hSl : (fillL F i).length = l := by rw [fillL_len (by omega)]; exact hFl
              obtain ⟨S, hS⟩ : ∃ S, S = fillL F i := ⟨_, rfl⟩
              rw [← hS] at hown hFS hSl
              have hci := hown.cell (i := i) (by omega)
              have hzi := hown.thawed i
              have hsr : g ≤ wr.heap.size := by have h1 := hb.size; have h2 := HG.out; omega
              have HW := Lib.hid (And.intro hown (And.intro hb (And.intro hFS hSl)))
              clear hown hFS hS hSl hFl
              go_upto_region 10 with (at_make; refine make_zeros rfl (.tmp 55) (.tmp 55) rfl wr.heap.size b.length rfl rfl (by omega) (Nat.le_refl _) ?_; intro v1 w4 hown1 hv1 hb1; subst hv1; have hci1 := Below.hold hb1 hci; have hzi1 := (HW.out.1.hold hb1).thawed i)
              have hbl : ∀ k, k < S.length → k ≠ i → ∀ b', (rs k).ownBlock = some b' → (Value.slice (some ⟨wr.heap.size, 0, none⟩) b.length b.length).ownBlock ≠ some b' := fun k hk _ b' hb' e2 => by
                have := ((HW.out.1.row k hk).row.lt b' hb').2
                have e3 : wr.heap.size = b' := by simpa [Value.ownBlock] using e2
                omega
              have hst := (HW.out.1.hold hb1).setRow (i := i) (hown1.low hsr) hbl (fun e2 => by
                have := (HW.out.1.outer.lt g rfl).2
                have e3 : wr.heap.size = g := by simpa [Value.ownBlock] using e2
                omega)
              have hb2 := hB2 _ (OwnM.wroteO (Below.next (Nat.le_refl _) (hB1 _ hb) hb1) (Nat.le_of_eq HG.out.symm) (Nat.le_trans hb.size hb1.size) (HW.out.1.hold hb1) hst.2)
              have HS := Lib.hid (And.intro hst.1 hb2)
              obtain ⟨rs1, hrs1⟩ : ∃ f : Nat → Value, f = rsSet rs i (.slice (some ⟨wr.heap.size, 0, none⟩) b.length b.length) := ⟨_, rfl⟩
              have hr1 : rs1 i = .slice (some ⟨wr.heap.size, 0, none⟩) b.length b.length := by rw [hrs1, rsSet_at]
              rw [← hrs1] at HS
              clear hst hb2 hbl hci hzi hci1 hzi1 hown1 hb1 hrs1 hb
              obtain ⟨G, hG⟩ : ∃ G, G = wr.heap.size := ⟨_, rfl⟩
              rw [← hG] at HS hr1 ⊢
              clear hG
              go_loopw [60] (fun jv wi => ∃ j : Nat, jv = .int .i64 j ∧ j ≤ b.length ∧ OwnM wi g (.slice (some ⟨g, 0, none⟩) l l) rs1 (S.set i (updK (tf a i) (List.replicate b.length 0) 0 j)) ∧ Below g w1 wi) (fun jv _ => b.length - (intOf jv).toNat)
              case atStart => exact ⟨0, rfl, Nat.zero_le _, by rw [updK_zero]; exact HS.out.1, HS.out.2⟩
              case round =>
                obtain ⟨j, rfl, hj, hown, hb⟩ := hrel
                have j0 : (0 : Int) ≤ (j : Int) := by omega
                by_cases hjl : j < b.length
                · have j1 : (j : Int) < (b.length : Int) := by omega
                  have hjR : j < (List.replicate b.length (0 : Int)).length := by simpa using hjl
                  have hup := updK_set0 (f := tf a i) (L := List.replicate b.length 0) (k := j)
                  by_cases hw : j ≤ i ∧ i - j < a.length
                  · obtain ⟨d, hd⟩ : ∃ d, d = i - j := ⟨_, rfl⟩
                    have k1 : (i : Int) - (j : Int) = (d : Int) := by omega
                    have k2 : (0 : Int) ≤ (d : Int) := by omega
                    have k3 : (d : Int) < (a.length : Int) := by omega
                    have hda : d < a.length := by omega
                    have htf : tf a i j = a[d] := by
                      unfold tf; rw [if_pos hw.1, ← hd, getD_lt _ hda]
                    rw [htf] at hup
                    obtain ⟨ba, oa, ca, ea, hca⟩ := HM.out.1.cells d hda
                    obtain ⟨rfl, rfl⟩ : a0 = some ⟨ba, oa, none⟩ ∧ c0 = ca := by simp at ea; exact ea
                    have hux := HM.out.1.us a[d] (List.getElem_mem hda)
                    have hcw := Below.hold (Below.next (Nat.le_refl _) HB1.out.1 (hB1 _ hb)) hca
                    obtain ⟨x, hx⟩ : ∃ x, x = a[d] := ⟨_, rfl⟩
                    rw [← hx] at hux hcw hup
                    have hiS : ∀ Y, i < (S.set i Y).length := fun Y => by rw [List.length_set, HW.out.2.2.2]; exact hlt
                    have hco := hown.out (hiS _) hr1
                    obtain ⟨hce, hze, huz⟩ := hown.cellIn (hiS _) hr1 (List.getElem_set_self _) (t := j) (by rw [updK_len]; exact hjR)
                    obtain ⟨y, hy⟩ : ∃ y, y = (updK (tf a i) (List.replicate b.length 0) 0 j)[j]'(by rw [updK_len]; exact hjR) := ⟨_, rfl⟩
                    rw [← hy] at hce huz
                    have HV := Lib.hid (And.intro hown (And.intro hb hup))
                    clear hown hb hup hy hx htf hca ea hd hiS hda
                    go_wp2_with fail
                    have k0 := fun q : NwAt wr => q.nw.hold hcw
                    have k1' := fun q : NwAt wr => q.nw.hold hco
                    have k2' := fun q : NwAt wr => q.nw.hold hce
                    have k3' := fun q : NwAt wr => q.nw.holdf hze
                    refine from_here ?_
                    intro q
                    refine wp_region_nwt 11 (by kernel_rfl) (by kernel_rfl) ?_
                    simp only [List.take_succ_cons, List.take_zero, List.drop_succ_cons, List.drop_zero]
                    repeat (go_big_quiet_step ((first | fail)))
                    refine wpQuiet_nil ?_
                    clear q
                    rintro _ ⟨q, rfl⟩
                    have m1 := k2' q
                    have m2 := k3' q
                    clear k0 k1' k2' k3'
                    have hs := (HV.out.1.hold q.nw.b).setIn (by rw [HW.out.2.2.2]; exact hlt) hr1 j x
                    rw [HV.out.2.2] at hs
                    have HSet := Lib.hid (And.intro hs.1 (OwnM.wrote (Below.next (Nat.le_refl _) (hB1 _ HV.out.2.1) q.nw.b) (Nat.le_of_eq HG.out.symm) (Nat.le_trans HV.out.2.1.size q.nw.b.size) (HV.out.1.hold q.nw.b) (i := i) (by rw [List.length_set, HW.out.2.2.2]; exact hlt) hr1 hs.2))
                    clear hs
                    go_wp2
                    exact ⟨⟨j + 1, by go_num, by omega, HSet.out.1, hB2 _ HSet.out.2⟩, by simp [intOf]; omega⟩
                  · have htf : tf a i j = 0 := by
                      unfold tf
                      by_cases h1 : j ≤ i
                      · rw [if_pos h1, getD_ge _ (by omega)]
                      · rw [if_neg h1]
                    have hsame : updK (tf a i) (List.replicate b.length 0) 0 (j + 1) = updK (tf a i) (List.replicate b.length 0) 0 j := by
                      rw [← hup, htf]
                      have e := updK_at0 (f := tf a i) hjR
                      rw [List.getElem_replicate] at e
                      exact set_same (by rw [updK_len]; exact hjR) e
                    have HV := Lib.hid (And.intro hown (And.intro hb hsame))
                    clear hown hb hup htf hsame
                    by_cases hji : j ≤ i
                    · have k1 : (0 : Int) ≤ (i : Int) - (j : Int) := by omega
                      have k2 : ¬ (i : Int) - (j : Int) < (a.length : Int) := by omega
                      clear hw
                      go_wp2_with fail
                      exact ⟨⟨j + 1, by go_num, by omega, by rw [HV.out.2.2]; exact HV.out.1, HV.out.2.1⟩, by simp [intOf]; omega⟩
                    · have k1 : ¬ (0 : Int) ≤ (i : Int) - (j : Int) := by omega
                      clear hw
                      go_wp2_with fail
                      exact ⟨⟨j + 1, by go_num, by omega, by rw [HV.out.2.2]; exact HV.out.1, HV.out.2.1⟩, by simp [intOf]; omega⟩
                · obtain rfl : j = b.length := by omega
                  have HV := Lib.hid (And.intro hown hb)
                  clear hown hb
                  go_wp2
                  exact ⟨⟨i + 1, rs1, by go_num, by omega, by rw [← HW.out.2.2.1]; exact HV.out.1, HV.out.2⟩, by simp [intOf]; omega⟩
            · obtain rfl : i = l := by omega
              have e : fillL F i = F := by rw [← hFl]; exact fillL_all F
              rw [e] at hown
              have HV := Lib.hid (And.intro hown.matR (hB1 _ hb))
              clear hown hb hFl e hi hlt
              have hf2 := Below.hold HV.out.2 HB1.out.2
              have HB2 := Lib.hid (Below.next (Nat.le_refl _) HB1.out.1 HV.out.2)
              rcases HF.out.2.2.2.2.1 with ⟨e1, e2⟩ | ⟨e1, e2⟩
              · have HE := Lib.hid (And.intro e1 e2)
                clear e1 e2
                go_upto_region 17 with (go_at_call 53; refine (tMultiply_p p _ _ a b _ (HM.out.1.hold HB2.out) (HM.out.2.hold HB2.out) (by omega) (by omega)).mono ?_; rintro _ w5 ⟨v5, rfl, hl5, hb5⟩; rw [HE.out.1]; rw [HE.out.2] at hl5; obtain ⟨a5, c5, rfl⟩ : ∃ a c, v5 = .slice a 0 c := hl5.shape; have hf5 := Below.hold hb5 hf2)
                have HB5 := Lib.hid (Below.next (Nat.le_refl _) HB2.out hb5)
                have HL5 := Lib.hid (And.intro hl5 (HV.out.1.hold hb5))
                clear hl5 hb5 hf2
                go_upto_region 18 with (go_at_call 39; refine (mApply_p p _ _ F b _ HL5.out.2 (HM.out.2.hold HB5.out) (by rw [HF.out.2.1]; omega) (fun i h => by rw [HF.out.2.2.1 i h, updK_len]; simp; omega) (by omega)).mono ?_; rintro _ w6 ⟨v6, rfl, hl6, hb6⟩; rw [HF.out.1] at hl6; have hf6 := Below.hold hb6 hf5)
                have HB6 := Lib.hid (Below.next (Nat.le_refl _) HB5.out hb6)
                have HL6 := Lib.hid (And.intro hl6 (HL5.out.1.hold hb6))
                clear hl6 hb6 hf5
                have G0 := fun (w' : World) (h : Below w6.heap.size w6 w') => Below.hold h hf6
                have F0 := Below.refl w6.heap.size w6
                go_region_held3 (fun w' => Below w6.heap.size w6 w')
                  (first | assumption | exact Below.drew (by assumption))
                  (first
                    | (go_at_call 50; refine (oTrim_any p v6 _ _ (HL6.out.1.hold (by (repeat (first | assumption | refine Below.drew ?_ | refine Below.next (Nat.le_refl _) ?_ (by assumption))))) (by rw [mulL_len]; omega)).mono ?_; rintro _ w7 ⟨v7, rfl, hl7, hb7⟩; have hs7 : Below w6.heap.size w6 w7 := Below.next (Nat.le_refl _) (by (repeat (first | assumption | refine Below.drew ?_ | refine Below.next (Nat.le_refl _) ?_ (by assumption)))) hb7)
                    | (go_at_call 54; refine (oMul_any p _ _ a b _ (HM.out.1.hold (Below.next (Nat.le_refl _) HB6.out (by (repeat (first | assumption | refine Below.drew ?_ | refine Below.next (Nat.le_refl _) ?_ (by assumption)))))) (HM.out.2.hold (Below.next (Nat.le_refl _) HB6.out (by (repeat (first | assumption | refine Below.drew ?_ | refine Below.next (Nat.le_refl _) ?_ (by assumption)))))) (by omega) (by omega)).mono ?_; rintro _ w8 ⟨v8, r, rfl, hl8, hi8, hb8⟩; have hs8 : Below w6.heap.size w6 w8 := Below.next (Nat.le_refl _) (by (repeat (first | assumption | refine Below.drew ?_ | refine Below.next (Nat.le_refl _) ?_ (by assumption)))) hb8; obtain rfl : r = cut0 ((mulL p a b).map (rd p)) := hi8.same (is_trim p (mulL p a b)) (fun _ => HF.out.2.2.2.1.symm))
                    | (go_at_call 25; refine (rSame_b v7 v8 _ _ _ (hl7.lst.hold (by first | exact hb8 | (repeat (first | assumption | refine Below.drew ?_ | refine Below.next (Nat.le_refl _) ?_ (by assumption))))) hl8.lst (by refine Nat.le_trans (cut0_len _) ?_; rw [List.length_map, mulL_len]; omega) (by refine Nat.le_trans (cut0_len _) ?_; rw [List.length_map, mulL_len]; omega)).mono ?_; rintro _ w9 ⟨rfl, hb9⟩; rw [decide_eq_true rfl]; have hs9 : Below w6.heap.size w6 w9 := Below.next (Nat.le_refl _) (by (repeat (first | assumption | refine Below.drew ?_ | refine Below.next (Nat.le_refl _) ?_ (by assumption)))) hb9)
                    | fail)
                all_goals
                  have HB9 := Lib.hid (Below.next (Nat.le_refl _) HB6.out hs9)
                  have HL9 := Lib.hid (And.intro (HL6.out.1.hold hs9) (HL6.out.2.hold hs9))
                  go_wp2
                  go_ret
                  exact ⟨rfl, HB9.out⟩
              · have HE := Lib.hid (And.intro e1 e2)
                clear e1 e2
                go_upto_region 17 with (go_at_call 53; refine (tMultiply_p p _ _ a b _ (HM.out.1.hold HB2.out) (HM.out.2.hold HB2.out) (by omega) (by omega)).mono ?_; rintro _ w5 ⟨v5, rfl, hl5, hb5⟩; rw [HE.out.1]; rw [HE.out.2] at hl5; have hf5 := Below.hold hb5 hf2)
                have HB5 := Lib.hid (Below.next (Nat.le_refl _) HB2.out hb5)
                have HL5 := Lib.hid (And.intro hl5 (HV.out.1.hold hb5))
                clear hl5 hb5 hf2
                go_upto_region 18 with (go_at_call 39; refine (mApply_p p _ _ F b _ HL5.out.2 (HM.out.2.hold HB5.out) (by rw [HF.out.2.1]; omega) (fun i h => by rw [HF.out.2.2.1 i h, updK_len]; simp; omega) (by omega)).mono ?_; rintro _ w6 ⟨v6, rfl, hl6, hb6⟩; rw [HF.out.1] at hl6; have hf6 := Below.hold hb6 hf5)
                have HB6 := Lib.hid (Below.next (Nat.le_refl _) HB5.out hb6)
                have HL6 := Lib.hid (And.intro hl6 (HL5.out.1.hold hb6))
                clear hl6 hb6 hf5
                have G0 := fun (w' : World) (h : Below w6.heap.size w6 w') => Below.hold h hf6
                have F0 := Below.refl w6.heap.size w6
                go_region_held3 (fun w' => Below w6.heap.size w6 w')
                  (first | assumption | exact Below.drew (by assumption))
                  (first
                    | (go_at_call 50; refine (oTrim_any p v6 _ _ (HL6.out.1.hold (by (repeat (first | assumption | refine Below.drew ?_ | refine Below.next (Nat.le_refl _) ?_ (by assumption))))) (by rw [mulL_len]; omega)).mono ?_; rintro _ w7 ⟨v7, rfl, hl7, hb7⟩; have hs7 : Below w6.heap.size w6 w7 := Below.next (Nat.le_refl _) (by (repeat (first | assumption | refine Below.drew ?_ | refine Below.next (Nat.le_refl _) ?_ (by assumption)))) hb7)
                    | (go_at_call 54; refine (oMul_any p _ _ a b _ (HM.out.1.hold (Below.next (Nat.le_refl _) HB6.out (by (repeat (first | assumption | refine Below.drew ?_ | refine Below.next (Nat.le_refl _) ?_ (by assumption)))))) (HM.out.2.hold (Below.next (Nat.le_refl _) HB6.out (by (repeat (first | assumption | refine Below.drew ?_ | refine Below.next (Nat.le_refl _) ?_ (by assumption)))))) (by omega) (by omega)).mono ?_; rintro _ w8 ⟨v8, r, rfl, hl8, hi8, hb8⟩; have hs8 : Below w6.heap.size w6 w8 := Below.next (Nat.le_refl _) (by (repeat (first | assumption | refine Below.drew ?_ | refine Below.next (Nat.le_refl _) ?_ (by assumption)))) hb8; obtain rfl : r = cut0 ((mulL p a b).map (rd p)) := hi8.same (is_trim p (mulL p a b)) (fun _ => HF.out.2.2.2.1.symm))
                    | (go_at_call 25; refine (rSame_b v7 v8 _ _ _ (hl7.lst.hold (by first | exact hb8 | (repeat (first | assumption | refine Below.drew ?_ | refine Below.next (Nat.le_refl _) ?_ (by assumption))))) hl8.lst (by refine Nat.le_trans (cut0_len _) ?_; rw [List.length_map, mulL_len]; omega) (by refine Nat.le_trans (cut0_len _) ?_; rw [List.length_map, mulL_len]; omega)).mono ?_; rintro _ w9 ⟨rfl, hb9⟩; rw [decide_eq_true rfl]; have hs9 : Below w6.heap.size w6 w9 := Below.next (Nat.le_refl _) (by (repeat (first | assumption | refine Below.drew ?_ | refine Below.next (Nat.le_refl _) ?_ (by assumption)))) hb9)
                    | fail)
                all_goals
                  have HB9 := Lib.hid (Below.next (Nat.le_refl _) HB6.out hs9)
                  have HL9 := Lib.hid (And.intro (HL6.out.1.hold hs9) (HL6.out.2.hold hs9))
                  go_wp2_with (go_at_call 25; refine (rSame_b v5 v6 _ _ _ HL9.out.2 HL9.out.1 (by rw [mulL_len]; omega) (by rw [mulL_len]; omega)).mono ?_; rintro _ w10 ⟨rfl, hb10⟩; rw [decide_eq_true rfl])
                  go_ret
                  exact ⟨rfl, Below.next (Nat.le_refl _) HB9.out hb10⟩
        · have i4 : ((b.length : Int) == 0) = true := beq_iff_eq.2 (show (b.length : Int) = 0 by omega)
          have i4' : (b.length : Int) = 0 := by omega
          clear hb0
          go_upto_region 3 with (go_at_call 45; refine (awake05_u _).mono ?_; rintro _ w1 ⟨rfl, hb1⟩)
          have HB1 := Lib.hid (Below.next (Nat.le_refl _) HBW.out hb1)
          clear hb1
          go_wp2_with (go_at_call 45; refine (awake05_u _).mono ?_; rintro _ w2 ⟨rfl, hb2⟩)
          go_ret
          exact ⟨rfl, Below.next (Nat.le_refl _) HB1.out hb2⟩
      · have i3 : ((a.length : Int) == 0) = true := beq_iff_eq.2 (show (a.length : Int) = 0 by omega)
        have i3' : (a.length : Int) = 0 := by omega
        clear ha0
        go_upto_region 3 with (go_at_call 45; refine (awake05_u _).mono ?_; rintro _ w1 ⟨rfl, hb1⟩)
        have HB1 := Lib.hid (Below.next (Nat.le_refl _) HBW.out hb1)
        clear hb1
        go_wp2_with (go_at_call 45; refine (awake05_u _).mono ?_; rintro _ w2 ⟨rfl, hb2⟩)
        go_ret
        exact ⟨rfl, Below.next (Nat.le_refl _) HB1.out hb2⟩
    · have i2 : (12 : Int) < (b.length : Int) := by omega
      go_upto_region 3 with (go_at_call 45; refine (awake05_u _).mono ?_; rintro _ w1 ⟨rfl, hb1⟩)
      have HB1 := Lib.hid (Below.next (Nat.le_refl _) HBW.out hb1)
      clear hb1
      go_wp2_with (go_at_call 45; refine (awake05_u _).mono ?_; rintro _ w2 ⟨rfl, hb2⟩)
      go_ret
      exact ⟨rfl, Below.next (Nat.le_refl _) HB1.out hb2⟩
  · have i1 : (12 : Int) < (a.length : Int) := by omega
    go_upto_region 3 with (go_at_call 45; refine (awake05_u _).mono ?_; rintro _ w1 ⟨rfl, hb1⟩)
    have HB1 := Lib.hid (Below.next (Nat.le_refl _) HBW.out hb1)
    clear hb1
    go_wp2_with (go_at_call 45; refine (awake05_u _).mono ?_; rintro _ w2 ⟨rfl, hb2⟩)
    go_ret
    exact ⟨rfl, Below.next (Nat.le_refl _) HB1.out hb2⟩
end Go.Proofs.Ytdcdaclkeocfpaa
