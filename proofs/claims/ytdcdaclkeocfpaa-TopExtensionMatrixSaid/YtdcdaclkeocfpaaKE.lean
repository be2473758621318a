/- The walk of the reference's eliminate (05). -/
import Derived.Test.YtdcdaclkeocfpaaKD
namespace Go.Proofs.Ytdcdaclkeocfpaa
open Go.RowKit Go.BigFrame
open Classical

def redL (p : Int) (M : List (List Int)) : List (List Int) := M.map fun r => r.map (· % p)
theorem redL_len (p : Int) (M : List (List Int)) : (redL p M).length = M.length := by simp [redL]
theorem redL_at (p : Int) (M : List (List Int)) {i : Nat} (h : i < (redL p M).length) : (redL p M)[i] = (M[i]'(by simpa [redL] using h)).map (· % p) := by simp [redL]
theorem mf_redL {p : Int} (hk : known p = true) (M : List (List Int)) : mf p (redL p M) = mf p M := funext fun i => funext fun j => by
  by_cases h : i < M.length
  · rw [mf_row (by rw [redL_len]; exact h), mf_row h, redL_at]
    by_cases h2 : j < M[i].length
    · rw [getD_lt _ (by simpa using h2), getD_lt _ h2]
      simp [ph_emod hk]
    · rw [getD_ge _ (by simp; omega), getD_ge _ (by omega)]
  · unfold mf; rw [getD_out (by rw [redL_len]; omega), getD_out (by omega)]
theorem Mt.redL {p : Int} (hk : known p = true) {M : List (List Int)} {n : Nat} (hr : ∀ i (h : i < M.length), M[i].length = n) : Mt p M.length n (redL p M) := by
  have hp := known_lo hk
  refine ⟨redL_len p M, fun i hi => ?_, fun i hi y hy => ?_⟩
  · rw [redL_at]; simp; exact hr i (by rw [redL_len] at hi; exact hi)
  · rw [redL_at] at hy
    obtain ⟨x, _, rfl⟩ := List.mem_map.1 hy
    exact ⟨Int.emod_nonneg _ (by omega), Int.emod_lt_of_pos _ (by omega)⟩
/-- What eliminate returns. -/
structure Elm (p : Int) (M : List (List Int)) (n : Nat) (R : List (List Int)) (c : List Nat) : Prop where
  mt : Mt p M.length n R
  part : Po.Part M.length n (mf p R) c
  ops : Po.Ops M.length (mf p M) (mf p R)

set_option maxRecDepth 100000 in
set_option maxHeartbeats 16000000 in
theorem keliminate_u (p : Int) [hpU : U p] (hk : known p = true) (v : Value) (M : List (List Int)) (n : Nat) (w : World) (hM : MatR w v M) (hr : ∀ i (h : i < M.length), M[i].length = n) (hc : cols M = n) (hm : M.length ≤ 100) (hn : n ≤ 100) :
    Calls Try.prog 65 #[.int .u64 p, v] w fun e w' => ∃ v1 v2 rs R c, e = .returned (.tuple #[v1, v2]) ∧ OwnM w' w.heap.size v1 rs R ∧ OwI w' w.heap.size v2 c ∧ Elm p M n R c ∧ Below w.heap.size w w' := by
  obtain ⟨a0, c0, rfl⟩ := hM.shape
  have hpl := known_lo hk
  have hph := known_hi hk
  have hp0 : ¬ p = 0 := by omega
  have hp1 : (p == 0) = false := by simpa using hp0
  have i1 : (M.length : Int) ≤ 100 := by omega
  have HM := Lib.hid (And.intro hM (And.intro hr (And.intro hk hc)))
  clear hM hr hk hc
  go_enter Try.func65, Try.ntmps65
  go_wp2
  go_loopw [6, 7] (fun ov iv wr => ∃ (i : Nat) (rs : Nat → Value), iv = .int .i64 i ∧ i ≤ M.length ∧ OwnM wr w.heap.size ov rs ((redL p M).take i) ∧ Below w.heap.size w wr) (fun _ iv _ => M.length - (intOf iv).toNat)
  case atStart => exact ⟨0, fun _ => undef, rfl, Nat.zero_le _, empty_mat _ _ _ (Nat.le_refl _), Below.made (Nat.le_refl _) (Below.refl _ _) _⟩
  case round =>
    obtain ⟨i, rs, rfl, hi, hown, hb⟩ := hrel
    have i0 : (0 : Int) ≤ (i : Int) := by omega
    by_cases hlt : i < M.length
    · obtain ⟨b, o, c, rv, e, hc, hl⟩ := (HM.out.1.hold hb).rows i hlt
      obtain ⟨rfl, rfl⟩ : a0 = some ⟨b, o, none⟩ ∧ c0 = c := by simp at e; exact e
      obtain ⟨ra, rc, rfl⟩ := hl.shape
      have hrl := HM.out.2.1 i hlt
      have hlenT : ((redL p M).take i).length = i := by rw [List.length_take, redL_len]; omega
      have htk : (redL p M).take (i + 1) = (redL p M).take i ++ [M[i].map (· % p)] := by
        rw [List.take_succ_eq_append_getElem (by rw [redL_len]; exact hlt), redL_at]
      obtain ⟨X, hX⟩ : ∃ X, X = M[i] := ⟨_, rfl⟩
      rw [← hX] at hl hrl htk hc
      have i3 : (i : Int) < (M.length : Int) := by omega
      have i4 : (X.length : Int) ≤ 100 := by omega
      have HW := Lib.hid (And.intro hown (And.intro hb (And.intro hl (And.intro htk (And.intro hlenT hrl)))))
      clear hown hb hl htk hlenT hX e hlt hrl
      go_wp2_with fail
      have hcx := Below.hold (Below.made (Nat.le_refl _) (Below.refl wr.heap.size wr) (.cells #[] 22)) hc
      rename World => wo
      go_loopw [8, 9] (fun xv jv wi => ∃ j : Nat, jv = .int .i64 j ∧ j ≤ X.length ∧ Own wi wo.heap.size xv ((X.map (· % p)).take j) ∧ Below wo.heap.size wo wi) (fun _ jv _ => X.length - (intOf jv).toNat)
      case atStart => exact ⟨0, rfl, Nat.zero_le _, empty_own _ _ (Nat.le_refl _), Below.made (Nat.le_refl _) (Below.refl _ _) _⟩
      case round =>
        obtain ⟨j, rfl, hj, hrow, hbi⟩ := hrel
        have j0 : (0 : Int) ≤ (j : Int) := by omega
        have hcr := Below.hold hbi hc
        clear hcx
        by_cases hjl : j < X.length
        · obtain ⟨b1, o1, c1, e1, hcc⟩ := (HW.out.2.2.1.hold hbi).cells j hjl
          obtain ⟨rfl, rfl⟩ : ra = some ⟨b1, o1, none⟩ ∧ rc = c1 := by simp at e1; exact e1
          clear e1
          have hux := HW.out.2.2.1.us X[j] (List.getElem_mem hjl)
          have htx : (X.map (· % p)).take (j + 1) = (X.map (· % p)).take j ++ [X[j] % p] := by
            rw [List.take_succ_eq_append_getElem (by simpa using hjl)]; simp
          obtain ⟨x, hx⟩ : ∃ x, x = X[j] := ⟨_, rfl⟩
          rw [← hx] at hcc hux htx
          have hx0 := hux.lo
          have hx1 := hux.hi
          have ht : x.tmod p = x % p := Int.tmod_eq_emod_of_nonneg hx0
          have hm0 := Int.emod_nonneg x hp0
          have hm1 := Int.emod_lt_of_pos x (show 0 < p by omega)
          have hwr : IntKind.u64.wrap (x % p) = x % p := by rw [IntKind.wrap_u64]; omega
          have hxU : U (x % p) := ⟨by omega, by omega⟩
          have j1 : (j : Int) < (X.length : Int) := by omega
          have HV := Lib.hid (And.intro hrow (And.intro hbi htx))
          clear hrow hbi htx hx hjl
          go_wp2_with (at_builtin; refine append_one rfl (.tmp 36) (.tmp 46) rfl wo.heap.size _ _ rfl HV.out.1 (x % p) inferInstance rfl (by rw [List.length_take]; omega) HV.out.2.1.size ?_; intro v' w' hown' hb')
          exact ⟨⟨j + 1, by go_num, by omega, by rw [HV.out.2.2]; exact hown', HV.out.2.1.trans hb'⟩, by simp [intOf]; omega⟩
        · obtain rfl : j = X.length := by omega
          rw [List.take_of_length_le (by simp)] at hrow
          obtain ⟨a1, c1, rfl⟩ : ∃ a c, u8 = .slice a X.length c := by
            obtain ⟨a, c, e⟩ := hrow.slice
            rw [List.length_map] at e
            exact ⟨a, c, e⟩
          have HV := Lib.hid (And.intro hrow hbi)
          clear hrow hbi
          go_wp2_with (at_builtin; refine append_mat rfl (.tmp 48) (.tmp 50) rfl w.heap.size u6 rs _ rfl (HW.out.1.hold HV.out.2) _ _ (HV.out.1.low HW.out.2.1.size) (HW.out.1.fresh HV.out.1).1 (HW.out.1.fresh HV.out.1).2 rfl (by rw [HW.out.2.2.2.2.1]; omega) (Nat.le_trans HW.out.2.1.size HV.out.2.size) ?_; intro g2 c2 w2 hown2 _ hg2)
          have hle : ((redL p M).take i).length = i := HW.out.2.2.2.2.1
          rw [← HW.out.2.2.2.1, hle] at hown2
          have hmin : min i (redL p M).length = i := by rw [redL_len]; omega
          exact ⟨⟨i + 1, _, by go_num, by omega, by first | exact hown2 | (rw [hmin]; exact hown2), (Below.next (Nat.le_refl _) HW.out.2.1 HV.out.2).grown hg2 (Nat.le_trans HW.out.2.1.size HV.out.2.size) (fun b e => (HW.out.1.outer.lt b e).1)⟩, by simp [intOf]; omega⟩
    · obtain rfl : i = M.length := by omega
      rw [List.take_of_length_le (by rw [redL_len]; exact Nat.le_refl _)] at hown
      rename World => wo
      have HA := Lib.hid (And.intro hown hb)
      clear hown hb hlt hi
      go_wp2
      go_loopw [10, 11] (fun cv jv wr => ∃ (j : Nat) (rs : Nat → Value) (L : List (List Int)) (c : List Nat), jv = .int .i64 j ∧ j ≤ n ∧ Wk wr w.heap.size u6 cv rs L c ∧ Mt p M.length n L ∧ Po.Part M.length j (mf p L) c ∧ Po.Ops M.length (mf p M) (mf p L) ∧ Below w.heap.size w wr) (fun _ jv _ => n - (intOf jv).toNat)
      case atStart =>
        have hbm : Below wo.heap.size wo (wo.alloc (.cells #[] 3)) := Below.made (Nat.le_refl _) (Below.refl _ _) _
        refine ⟨0, rs, redL p M, [], rfl, Nat.zero_le _, ⟨HA.out.1.hold hbm, empty_int _ _ HA.out.2.size, fun g e e2 => ?_, fun i hi g e e2 => ?_⟩, Mt.redL HM.out.2.2.1 HM.out.2.1, Po.Part.zero _ _, by rw [mf_redL HM.out.2.2.1]; exact .refl, Below.next (Nat.le_refl _) HA.out.2 hbm⟩
        · cases e
          have h1 : wo.heap.size < wo.heap.size := (HA.out.1.outer.lt _ e2).2
          omega
        · cases e
          have h1 : wo.heap.size < wo.heap.size := ((HA.out.1.row i hi).row.lt _ e2).2
          omega
      case round =>
        obtain ⟨j, rs, L, c, rfl, hj, hwk, hmt, hpart, hops, hb⟩ := hrel
        have j0 : (0 : Int) ≤ (j : Int) := by omega
        by_cases hjn : j < n
        · have hLm := hmt.len
          have hm0 : 0 < M.length := by
            apply Classical.byContradiction
            intro h
            have h1 : M = [] := List.length_eq_zero_iff.1 (by omega)
            have h2 := HM.out.2.2.2
            rw [h1] at h2
            simp [cols] at h2
            omega
          obtain ⟨g0, cap0, rfl⟩ : ∃ g cap, u6 = .slice (some ⟨g, 0, none⟩) M.length cap := by
            rcases hwk.m.cases with ⟨_, e⟩ | ⟨g, cap, e, _⟩
            · rw [e] at hLm; simp at hLm; omega
            · rw [hLm] at e; exact ⟨g, cap, e⟩
          obtain ⟨pa, pc, rfl⟩ := hwk.c.lst.shape
          have hcl := hpart.len
          have i5 : (j : Int) < (n : Int) := by omega
          have i6 : (c.length : Int) ≤ (M.length : Int) := by omega
          have i7 : (0 : Int) ≤ (c.length : Int) := by omega
          have HW := Lib.hid (And.intro hwk (And.intro hmt (And.intro hpart (And.intro hops hb))))
          clear hwk hmt hpart hops hb hjn
          go_wp2_with (go_at_call 41; refine (kColumns_u _ M _ (HM.out.1.hold HW.out.2.2.2.2) (by omega)).mono ?_; rintro e w1 ⟨rfl, rfl⟩; rw [HM.out.2.2.2])
          rename World => wj
          go_loopw [13] (fun kv wx => ∃ k : Nat, kv = .int .i64 k ∧ c.length ≤ k ∧ k ≤ M.length ∧ (∀ i, c.length ≤ i → i < k → (L.getD i []).getD j 0 = 0) ∧ wx = wj) (fun kv _ => M.length - (intOf kv).toNat)
          case atStart => exact ⟨c.length, rfl, Nat.le_refl _, hcl, fun i h1 h2 => by omega, rfl⟩
          case round =>
            obtain ⟨k, rfl, hck, hkm, hz, rfl⟩ := hrel
            have k0 : (0 : Int) ≤ (k : Int) := by omega
            by_cases hkl : k < M.length
            · have hkL : k < L.length := by omega
              have hrow := HW.out.2.1.row k hkL
              obtain ⟨gk, capk, hrk⟩ := HW.out.1.rows hkL (by omega)
              rw [hrow] at hrk
              have hco := HW.out.1.m.cell hkL
              rw [hrk] at hco
              have hok := HW.out.1.m.row k hkL
              rw [hrk] at hok
              have hjk : j < L[k].length := by omega
              have hce := hok.cell hjk
              have hgd : (L.getD k []).getD j 0 = L[k][j] := by rw [getD_row hkL, getD_lt _ hjk]
              have hux := hok.us _ (List.getElem_mem hjk)
              obtain ⟨x, hx⟩ : ∃ x, x = L[k][j] := ⟨_, rfl⟩
              rw [← hx] at hce hgd hux
              have i8 : (k : Int) < (M.length : Int) := by omega
              by_cases hx0 : x = 0
              · have hxb : (x == 0) = true := by simpa using hx0
                have HZ := Lib.hid (And.intro hz (And.intro hgd hx0))
                clear hz hgd hx hrow hok hrk hx0 hjk
                go_wp2
                refine ⟨⟨k + 1, by go_num, by omega, by omega, fun i h1 h2 => ?_, by first | rfl | trivial⟩, by simp [intOf]; omega⟩
                rcases Nat.lt_succ_iff_lt_or_eq.1 h2 with e | e
                · exact HZ.out.1 i h1 e
                · subst e; rw [HZ.out.2.1]; exact HZ.out.2.2
              · have hxb : (x == 0) = false := by simpa using hx0
                have i9 : ((k : Int) == (M.length : Int)) = false := by simp; omega
                have i10 : ¬ (k : Int) = (M.length : Int) := by omega
                have haL : c.length < L.length := by omega
                have hrowa := HW.out.2.1.row c.length haL
                obtain ⟨ga, capa, hra⟩ := HW.out.1.rows haL (by omega)
                rw [hrowa] at hra
                have hca := HW.out.1.m.cell haL
                rw [hra] at hca
                have hza := HW.out.1.m.thawed c.length
                have hzk := HW.out.1.m.thawed k
                have i11 : (c.length : Int) < (M.length : Int) := by omega
                have hcs : (wr.setCell ⟨g0, c.length, none⟩ (.slice (some ⟨gk, 0, none⟩) n capk)).cell? ⟨g0, k, none⟩ = some (.slice (some ⟨gk, 0, none⟩) n capk) := by
                  by_cases e : c.length = k
                  · rw [e]; exact World.cell?_setCell_same _ _ _ hco
                  · rw [World.cell?_setCell_other _ _ _ _ (by intro h; apply e; have := congrArg Addr.off h; simpa using this)]; exact hco
                have hsw := HW.out.1.swap haL hkL
                rw [hrk, hra] at hsw
                have HS := Lib.hid hsw
                have HR := Lib.hid (And.intro hra (And.intro hrk hgd))
                clear hsw hrow hrowa hok hra hrk hgd hx hz
                go_wp2_with fail
                go_region
                go_upto_region 21 with fail
                refine name_world ?_
                intro W hW
                have hBw : w.heap.size ≤ g0 := (HW.out.1.m.outer.lt g0 rfl).1
                have hgd : ∀ B w1 w2, Below B w1 w2 → Below B w1 w2.drew := fun _ _ _ h => h.drew
                have hwk1 := HS.out.1.hold (Below.drew (Below.refl _ _))
                have hb1 : Below w.heap.size w W := by
                  rw [hW]
                  exact Below.drew (HW.out.2.2.2.2.grown HS.out.2 HW.out.2.2.2.2.size (fun b e => by cases e; exact hBw))
                rw [← hW] at hwk1
                clear hW hgd hca hco hza hzk hcs hce
                obtain ⟨rs1, hrs1⟩ : ∃ f : Nat → Value, f = fun i => rs (if i = c.length then k else if i = k then c.length else i) := ⟨_, rfl⟩
                obtain ⟨S, hS⟩ : ∃ S, S = swapL L c.length k := ⟨_, rfl⟩
                obtain ⟨a, ha⟩ : ∃ a, a = c.length := ⟨_, rfl⟩
                have hr1 : rs1 a = .slice (some ⟨gk, 0, none⟩) n capk := by rw [hrs1, ha]; simp only [if_true]; exact HR.out.2.1
                rw [← hrs1, ← hS] at hwk1
                have hmtS : Mt p M.length n S := by rw [hS]; exact HW.out.2.1.swap haL hkL
                have haS : a < S.length := by rw [hS, swapL_len, ha]; exact haL
                obtain ⟨A, hA⟩ : ∃ A, A = S[a] := ⟨_, rfl⟩
                have hAl : A.length = n := by rw [hA]; exact hmtS.row a haS
                have hAj : A.getD j 0 = x := by
                  have h1 : S.getD a [] = L.getD k [] := by
                    rw [getD_row haS]
                    subst hS
                    rw [swapL_at, if_pos ha]
                  rw [hA, ← getD_row haS, h1]; exact HR.out.2.2
                have hjA : j < A.length := by omega
                have hAj2 : A[j] = x := by rw [← getD_lt _ hjA]; exact hAj
                have hci := hwk1.cellIn haS hr1 hA.symm hjA
                rw [hAj2] at hci
                have hco := hwk1.out haS hr1
                have hce := hci.1
                have i12 : (a : Int) < (M.length : Int) := by omega
                have HS2 := Lib.hid (And.intro hwk1 (And.intro hb1 (And.intro hr1 (And.intro hmtS (And.intro haS (And.intro hA (And.intro hAl (And.intro hS hrs1))))))))
                have HAx := Lib.hid (And.intro hAj hx0)
                have HSA := Lib.hid ha
                rw [← ha] at i11 ⊢
                clear hwk1 hb1 hr1 hmtS hA hAl hAj hAj2 hjA hci hS hrs1 HS hx0 hxb i10 i9 ha
                go_wp2_with (go_at_call 103; refine (rInv_u p x _).mono ?_; rintro _ w2 ⟨rfl, hb2⟩)
                have HS3 := Lib.hid (And.intro (HS2.out.1.hold hb2.b) (Below.next (Nat.le_refl _) HS2.out.2.1 hb2.b))
                clear hb2 hco hce
                go_loopw [15] (fun tv wx => ∃ t : Nat, tv = .int .i64 t ∧ t ≤ n ∧ Wk wx w.heap.size (.slice (some ⟨g0, 0, none⟩) M.length cap0) (.slice pa c.length pc) rs1 (S.set a (scK p (iv p x) A t)) c ∧ Below w.heap.size w wx) (fun tv _ => n - (intOf tv).toNat)
                case atStart =>
                  refine ⟨0, rfl, Nat.zero_le _, ?_, HS3.out.2⟩
                  have h1 : S.set a (scK p (iv p x) A 0) = S := by
                    unfold scK
                    rw [updK_zero, HS2.out.2.2.2.2.2.1, List.set_getElem_self]
                  rw [h1]; exact HS3.out.1
                case round =>
                  obtain ⟨t, rfl, ht, hwk, hb⟩ := hrel
                  have t0 : (0 : Int) ≤ (t : Int) := by omega
                  have haX : ∀ X, a < (S.set a X).length := fun X => by rw [List.length_set]; exact haS
                  have hco := hwk.out (haX _) HS2.out.2.2.1
                  by_cases htn : t < n
                  · have hAl := HS2.out.2.2.2.2.2.2.1
                    have htX : t < (scK p (iv p x) A t).length := by rw [scK_len]; omega
                    have hci := hwk.cellIn (haX _) HS2.out.2.2.1 (List.getElem_set_self _) htX
                    have htA : t < A.length := by omega
                    have hXt : (scK p (iv p x) A t)[t] = A[t] := updK_at0 htA
                    rw [hXt] at hci
                    have hup : (scK p (iv p x) A t).set t (ml p A[t] (iv p x)) = scK p (iv p x) A (t + 1) := by
                      have h := updK_set0 (f := fun l => ml p (A.getD l 0) (iv p x)) (L := A) (k := t)
                      rw [getD_lt _ htA] at h; exact h
                    obtain ⟨y, hy⟩ : ∃ y, y = A[t] := ⟨_, rfl⟩
                    rw [← hy] at hci hup
                    obtain ⟨hcc, hzz, huy⟩ := hci
                    have i13 : (t : Int) < (n : Int) := by omega
                    have HV := Lib.hid (And.intro hwk (And.intro hb hup))
                    clear hwk hb hup hy hXt htX htA hAl haX
                    go_wp2_with fail
                    have k0 := fun q : NwAt wr => q.nw.hold hco
                    have k1 := fun q : NwAt wr => q.nw.hold hcc
                    have k2 := fun q : NwAt wr => q.nw.holdf hzz
                    refine from_here ?_
                    intro q
                    refine wp_region_nwt 15 (by kernel_rfl) (by kernel_rfl) ?_
                    simp only [List.take_succ_cons, List.take_zero, List.drop_succ_cons, List.drop_zero]
                    repeat (go_big_quiet_step ((first | (go_at_call 43; exact nwAt_of (rMul_u _ _ _ _)))))
                    refine wpQuiet_nil ?_
                    clear q
                    rintro _ ⟨q, rfl⟩
                    have j1 := k1 q
                    have j2 := k2 q
                    clear k0 k1 k2
                    have hs := (HV.out.1.hold q.nw.b).setIn haS HS2.out.2.2.1 t (ml p y (iv p x))
                    rw [HV.out.2.2] at hs
                    have HSet := Lib.hid (And.intro hs.1 (Wk.wrote (Below.next (Nat.le_refl _) HV.out.2.1 q.nw.b) (Nat.le_refl _) (Nat.le_trans HV.out.2.1.size q.nw.b.size) (HV.out.1.hold q.nw.b) (i := a) (by rw [List.length_set]; exact haS) HS2.out.2.2.1 hs.2))
                    clear hs
                    go_wp2
                    exact ⟨⟨t + 1, by go_num, by omega, HSet.out.1, HSet.out.2⟩, by simp [intOf]; omega⟩
                  · obtain rfl : n = t := by omega
                    have hAl := HS2.out.2.2.2.2.2.2.1
                    have hSA := HS2.out.2.2.2.2.2.1
                    have hmt0 : Mt p M.length n (S.set a (scK p (iv p x) A n)) := HS2.out.2.2.2.1.set (by rw [scK_len]; exact hAl) (scK_rdc HM.out.2.2.1 _ _ (by rw [hSA]; exact HS2.out.2.2.2.1.red a haS))
                    have hmf0 : mf p (S.set a (scK p (iv p x) A n)) = Po.elim (mf p S) a j (ph p (iv p x)) 0 := by
                      have h := mf_scale HM.out.2.2.1 haS j (iv p x)
                      rw [← hSA, hAl] at h; exact h
                    have HV := Lib.hid (And.intro hwk (And.intro hb (And.intro hmt0 hmf0)))
                    clear hwk hb hmt0 hmf0 hAl hSA haX
                    go_wp2_with fail
                    clear hco
                    go_loopw [16] (fun rv wx => ∃ (r : Nat) (N : List (List Int)), rv = .int .i64 r ∧ r ≤ M.length ∧ Wk wx w.heap.size (.slice (some ⟨g0, 0, none⟩) M.length cap0) (.slice pa c.length pc) rs1 N c ∧ Mt p M.length n N ∧ mf p N = Po.elim (mf p S) a j (ph p (iv p x)) r ∧ Below w.heap.size w wx) (fun rv _ => M.length - (intOf rv).toNat)
                    case atStart => exact ⟨0, _, rfl, Nat.zero_le _, HV.out.1, HV.out.2.2.1, HV.out.2.2.2, HV.out.2.1⟩
                    case round =>
                      obtain ⟨r, N, rfl, hrm, hwk, hmtN, hmfN, hb⟩ := hrel
                      have r0 : (0 : Int) ≤ (r : Int) := by omega
                      have haN : a < N.length := by rw [hmtN.len, ← HS2.out.2.2.2.1.len]; exact haS
                      by_cases hrl : r < M.length
                      · have hrN : r < N.length := by rw [hmtN.len]; exact hrl
                        have hRl := hmtN.row r hrN
                        have hAl := hmtN.row a haN
                        obtain ⟨gr, capr, hrr⟩ := hwk.rows hrN (by omega)
                        rw [hRl] at hrr
                        have hco := hwk.out hrN hrr
                        obtain ⟨hcj, hzj, huj⟩ := hwk.cellIn hrN hrr rfl (t := j) (by omega)
                        have hgj : N[r].getD j 0 = N[r][j] := getD_lt _ (by omega)
                        obtain ⟨y, hy⟩ : ∃ y, y = N[r][j] := ⟨_, rfl⟩
                        rw [← hy] at hcj huj hgj
                        have i14 : (r : Int) < (M.length : Int) := by omega
                        have i15 : (0 : Int) < (n : Int) := by omega
                        by_cases hra : r = a
                        · have i16 : ((r : Int) != (a : Int)) = false := by simp; omega
                          have hmf1 : mf p N = Po.elim (mf p S) a j (ph p (iv p x)) (r + 1) := by rw [hmfN, hra, Po.elim_at]
                          have HN := Lib.hid (And.intro hwk (And.intro hmtN (And.intro hmf1 (And.intro hb hra))))
                          clear hwk hmtN hmfN hmf1 hb hgj hy hra hRl hAl
                          go_wp2_with fail
                          rename World => wq
                          go_loopw [18] (fun iv wx => iv = .int .i64 0 ∧ wx = wq) (fun _ _ => 0)
                          case atStart => exact ⟨rfl, rfl⟩
                          case round =>
                            obtain ⟨rfl, rfl⟩ := hrel
                            go_wp2
                            exact ⟨⟨r + 1, N, by go_num, by omega, HN.out.1, HN.out.2.1, HN.out.2.2.1, HN.out.2.2.2.1⟩, by simp [intOf]; omega⟩
                        · have i16 : ((r : Int) != (a : Int)) = true := by simp; omega
                          have hmf1 := mf_clear HM.out.2.2.1 hmtN haN hrN hra hmfN
                          rw [hgj, hRl] at hmf1
                          obtain ⟨R, hR⟩ : ∃ R, R = N[r] := ⟨_, rfl⟩
                          obtain ⟨T, hT⟩ : ∃ T, T = N[a] := ⟨_, rfl⟩
                          have hRd : Rdc p R := by rw [hR]; exact hmtN.red r hrN
                          rw [← hR, ← hT] at hmf1
                          rw [← hR] at hRl
                          rw [← hT] at hAl
                          have hTr : ∀ X, (N.set r X)[a]'(by rw [List.length_set]; exact haN) = T := fun X => by rw [List.getElem_set_ne hra, hT]
                          have hmt1 : Mt p M.length n (N.set r (suK p y R T n)) := hmtN.set (by rw [suK_len]; exact hRl) (suK_rdc HM.out.2.2.1 _ _ _ hRd)
                          have hst0 : N.set r (suK p y R T 0) = N := by unfold suK; rw [updK_zero, hR, List.set_getElem_self]
                          have HN := Lib.hid (And.intro hwk (And.intro hmt1 (And.intro hmf1 (And.intro hb (And.intro hTr hst0)))))
                          have HL2 := Lib.hid (And.intro hRl hAl)
                          clear hwk hmtN hmfN hmf1 hmt1 hb hgj hy hR hT hRd hTr hst0
                          go_wp2_with fail
                          clear hco hcj hzj
                          go_loopw [18] (fun iv wx => ∃ i : Nat, iv = .int .i64 i ∧ i ≤ n ∧ Wk wx w.heap.size (.slice (some ⟨g0, 0, none⟩) M.length cap0) (.slice pa c.length pc) rs1 (N.set r (suK p y R T i)) c ∧ Below w.heap.size w wx) (fun iv _ => n - (intOf iv).toNat)
                          case atStart => exact ⟨0, rfl, Nat.zero_le _, by rw [HN.out.2.2.2.2.2]; exact HN.out.1, HN.out.2.2.2.1⟩
                          case round =>
                            obtain ⟨i, rfl, hi, hwk, hb⟩ := hrel
                            have i17 : (0 : Int) ≤ (i : Int) := by omega
                            have hrX : ∀ X, r < (N.set r X).length := fun X => by rw [List.length_set]; exact hrN
                            have haX : ∀ X, a < (N.set r X).length := fun X => by rw [List.length_set]; exact haN
                            have hco := hwk.out (hrX _) hrr
                            by_cases hin : i < n
                            · have hcoa := hwk.out (haX _) HS2.out.2.2.1
                              have hRl := HL2.out.1
                              have hTl := HL2.out.2
                              have hiX : i < (suK p y R T i).length := by rw [suK_len]; omega
                              have hiR : i < R.length := by omega
                              have hiT : i < T.length := by omega
                              have hXi : (suK p y R T i)[i] = R[i] := updK_at0 hiR
                              have hc1 := hwk.cellIn (hrX _) hrr (List.getElem_set_self _) hiX
                              rw [hXi] at hc1
                              have hc2 := hwk.cellIn (haX _) HS2.out.2.2.1 (HN.out.2.2.2.2.1 _) hiT
                              have hup : (suK p y R T i).set i (sb p R[i] (ml p y T[i])) = suK p y R T (i + 1) := by
                                have h := updK_set0 (f := fun l => sb p (R.getD l 0) (ml p y (T.getD l 0))) (L := R) (k := i)
                                rw [getD_lt _ hiR, getD_lt _ hiT] at h; exact h
                              obtain ⟨x1, hx1⟩ : ∃ x1, x1 = R[i] := ⟨_, rfl⟩
                              obtain ⟨x2, hx2⟩ : ∃ x2, x2 = T[i] := ⟨_, rfl⟩
                              rw [← hx1] at hc1 hup
                              rw [← hx2] at hc2 hup
                              obtain ⟨hcc, hzz, hu1⟩ := hc1
                              obtain ⟨hcd, _, hu2⟩ := hc2
                              have i18 : (i : Int) < (n : Int) := by omega
                              have HW2 := Lib.hid (And.intro hwk (And.intro hb hup))
                              clear hwk hb hup hx1 hx2 hXi hiX hiR hiT hRl hTl hrX haX
                              go_wp2_with fail
                              have k0 := fun q : NwAt wr => q.nw.hold hco
                              have k1 := fun q : NwAt wr => q.nw.hold hcoa
                              have k2 := fun q : NwAt wr => q.nw.hold hcc
                              have k3 := fun q : NwAt wr => q.nw.hold hcd
                              have k4 := fun q : NwAt wr => q.nw.holdf hzz
                              refine from_here ?_
                              intro q
                              refine wp_region_nwt 24 (by kernel_rfl) (by kernel_rfl) ?_
                              simp only [List.take_succ_cons, List.take_zero, List.drop_succ_cons, List.drop_zero]
                              repeat (go_big_quiet_step ((first | (go_at_call 43; exact nwAt_of (rMul_u _ _ _ _)) | (go_at_call 42; exact nwAt_of (rSub_u _ _ _ _)))))
                              refine wpQuiet_nil ?_
                              clear q
                              rintro _ ⟨q, rfl⟩
                              have j1 := k2 q
                              have j2 := k4 q
                              clear k0 k1 k2 k3 k4
                              have hs := (HW2.out.1.hold q.nw.b).setIn hrN hrr i (sb p x1 (ml p y x2))
                              rw [HW2.out.2.2] at hs
                              have HSet := Lib.hid (And.intro hs.1 (Wk.wrote (Below.next (Nat.le_refl _) HW2.out.2.1 q.nw.b) (Nat.le_refl _) (Nat.le_trans HW2.out.2.1.size q.nw.b.size) (HW2.out.1.hold q.nw.b) (i := r) (by rw [List.length_set]; exact hrN) hrr hs.2))
                              clear hs
                              go_wp2
                              exact ⟨⟨i + 1, by go_num, by omega, HSet.out.1, HSet.out.2⟩, by simp [intOf]; omega⟩
                            · obtain rfl : n = i := by omega
                              have HW2 := Lib.hid (And.intro hwk hb)
                              clear hwk hb
                              go_wp2
                              exact ⟨⟨r + 1, _, by go_num, by omega, HW2.out.1, HN.out.2.1, HN.out.2.2.1, HW2.out.2⟩, by simp [intOf]; omega⟩
                      · obtain rfl : r = M.length := by omega
                        have hk := HM.out.2.2.1
                        have hx0 : 0 ≤ x ∧ x < p := by
                          have h1 := HS2.out.2.2.2.1.red a haS
                          rw [← HS2.out.2.2.2.2.2.1] at h1
                          have h2 : j < A.length := by have := HS2.out.2.2.2.2.2.2.1; omega
                          have h3 := HAx.out.1
                          rw [getD_lt _ h2] at h3
                          rw [← h3]; exact h1 _ (List.getElem_mem h2)
                        have hxp : x % p ≠ 0 := by rw [Int.emod_eq_of_lt hx0.1 hx0.2]; exact HAx.out.2
                        have hv : ph p (iv p x) * mf p L k j = 1 := by
                          show _ * ph p ((L.getD k []).getD j 0) = 1
                          rw [HR.out.2.2]; exact ph_iv hk hx0.1 hxp
                        have hmS : mf p S = Po.swap c.length k (mf p L) := by rw [HS2.out.2.2.2.2.2.2.2.1]; exact mf_swap haL hkL
                        rw [hmS, HSA.out] at hmfN
                        have hpa := HW.out.2.2.1.pivot hck hkl hv
                        rw [← hmfN] at hpa
                        have hop := HW.out.2.2.2.1.trans ((Po.swap_ops (mf p L) (show c.length < M.length by omega) hkl).trans (Po.elim_ops (a := c.length) (j := j) (show c.length < M.length by omega) hv M.length (Nat.le_refl _)))
                        rw [← hmfN] at hop
                        have hwk2 : Wk wr w.heap.size (.slice (some ⟨g0, 0, none⟩) M.length cap0) (.slice pa a pc) rs1 N c := by rw [HSA.out]; exact hwk
                        have HF := Lib.hid (And.intro hwk2 (And.intro hmtN (And.intro hpa (And.intro hop hb))))
                        clear hwk hwk2 hmtN hpa hop hb hmfN hmS hv hxp hx0 hk
                        go_wp2_with (at_builtin; refine append_int rfl (.tmp 182) (.tmp 184) rfl w.heap.size _ c rfl HF.out.1.c j rfl (by omega) HF.out.2.2.2.2.size ?_; intro g2 c2 w3 hown3 hg3 hgr3)
                        exact ⟨⟨j + 1, rs1, N, c ++ [j], by go_num, by omega, HF.out.1.push hown3 hg3 hgr3, HF.out.2.1, HF.out.2.2.1, HF.out.2.2.2.1, HF.out.2.2.2.2.grown hgr3 HF.out.2.2.2.2.size (fun b e => (World.ownsRow.lt HF.out.1.c b e).1)⟩, by simp [intOf]; omega⟩
            · obtain rfl : k = M.length := by omega
              have i9 : ((M.length : Int) == (M.length : Int)) = true := by simp
              have hsk := HW.out.2.2.1.skip (fun i h1 h2 => by
                have := hz i h1 h2
                unfold mf; rw [this, ph_zero HM.out.2.2.1])
              have HS := Lib.hid hsk
              clear hsk hz
              go_wp2
              exact ⟨⟨j + 1, rs, L, c, by go_num, by omega, HW.out.1, HW.out.2.1, HS.out, HW.out.2.2.2.1, HW.out.2.2.2.2⟩, by simp [intOf]; omega⟩
        · obtain rfl : j = n := by omega
          have HW := Lib.hid (And.intro hwk (And.intro hmt (And.intro hpart (And.intro hops hb))))
          clear hwk hmt hpart hops hb
          go_wp2_with (go_at_call 41; refine (kColumns_u _ M _ (HM.out.1.hold HW.out.2.2.2.2) (by omega)).mono ?_; rintro e w1 ⟨rfl, rfl⟩; rw [HM.out.2.2.2])
          refine bodyPost_ret (results_tmp2 rfl _ _ _) rfl ?_
          exact ⟨_, _, rs, L, c, rfl, HW.out.1.m, HW.out.1.c, ⟨HW.out.2.1, HW.out.2.2.1, HW.out.2.2.2.1⟩, HW.out.2.2.2.2⟩
end Go.Proofs.Ytdcdaclkeocfpaa
