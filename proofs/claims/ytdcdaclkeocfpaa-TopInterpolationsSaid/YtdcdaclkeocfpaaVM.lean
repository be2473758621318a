/- The matrix of the powers of a domain's points: its walk, its inverse. -/
import Derived.Test.YtdcdaclkeocfpaaAW
namespace Go.Proofs.Ytdcdaclkeocfpaa
open Go.RowKit Go.BigFrame
open Classical

/-- The first k powers of each point. -/
def vanM (p : Int) (k : Nat) (D : List Int) : List (List Int) := D.map fun x => powL p x k
theorem vanM_len (p : Int) (k : Nat) (D : List Int) : (vanM p k D).length = D.length := by simp [vanM]
theorem vanM_row (p : Int) (k : Nat) (D : List Int) {i : Nat} (h : i < (vanM p k D).length) : (vanM p k D)[i].length = k := by simp [vanM, powL_len]

set_option maxRecDepth 100000 in
set_option maxHeartbeats 8000000 in
theorem powers05_u (p : Int) [_hU : U p] (hk : known p = true) (v : Value) (D : List Int) (w : World) (hD : Lst w v D) (hn : D.length ≤ 100) :
    Calls Try.prog 49 #[.agg #[.int .u64 p], v] w fun e w' => ∃ v1, e = .returned v1 ∧ MatR w' v1 (vanM p D.length D) ∧ Below w.heap.size w w' := by
  obtain ⟨a0, c0, rfl⟩ := hD.shape
  have HM := Lib.hid (And.intro hD hk)
  clear hD hk
  have i1 : (D.length : Int) ≤ 100 := by omega
  go_enter Try.func49, Try.ntmps49
  go_upto_region 1 with fail
  refine name_world ?_
  intro W hW
  have hb0 : Below w.heap.size w W := by rw [hW]; exact Below.made (Nat.le_refl _) (Below.refl _ _) _
  have hf0 : W.cell? ⟨w.heap.size, 0, none⟩ = some (.int .u64 p) := by rw [hW]; go_simp
  have HB := Lib.hid (And.intro hb0 hf0)
  clear hb0 hf0 hW
  go_wp2
  go_loopw [5, 10] (fun ov iv wr => ∃ (i : Nat) (rs : Nat → Value), iv = .int .i64 i ∧ i ≤ D.length ∧ OwnM wr W.heap.size ov rs ((vanM p D.length D).take i) ∧ Below W.heap.size W wr) (fun _ iv _ => D.length - (intOf iv).toNat)
  case atStart => exact ⟨0, fun _ => undef, rfl, Nat.zero_le _, OwnM.nil _ _ _, Below.refl _ _⟩
  case round =>
    obtain ⟨i, rs, rfl, hi, hown, hb⟩ := hrel
    have i0 : (0 : Int) ≤ (i : Int) := by omega
    by_cases hlt : i < D.length
    · have i2 : (i : Int) < (D.length : Int) := by omega
      obtain ⟨b, o, cx, e, hcc⟩ := (HM.out.1.hold (Below.next (Nat.le_refl _) HB.out.1 hb)).cells i hlt
      obtain ⟨rfl, rfl⟩ : a0 = some ⟨b, o, none⟩ ∧ c0 = cx := by simp at e; exact e
      have hux := HM.out.1.us D[i] (List.getElem_mem hlt)
      have hlenT : ((vanM p D.length D).take i).length = i := by rw [List.length_take, vanM_len]; omega
      have htk : (vanM p D.length D).take (i + 1) = (vanM p D.length D).take i ++ [powL p D[i] D.length] := by
        rw [List.take_succ_eq_append_getElem (by rw [vanM_len]; exact hlt)]; simp [vanM]
      obtain ⟨x, hx⟩ : ∃ x, x = D[i] := ⟨_, rfl⟩
      rw [← hx] at hcc hux htk
      have hf := Below.hold hb HB.out.2
      obtain ⟨T, hT⟩ : ∃ T, T = (vanM p D.length D).take i := ⟨_, rfl⟩
      rw [← hT] at hown hlenT htk
      have HW := Lib.hid (And.intro hown (And.intro hb (And.intro htk hlenT)))
      clear hown hb htk hlenT hx e hlt hT
      go_wp2_with (first
        | (go_at_call 93; refine (fPowers_o p x D.length HM.out.2 (by omega) _).mono ?_; rintro _ w1 ⟨v1, rfl, hown1, hb1⟩; obtain ⟨a1, d1, rfl⟩ := hown1.slice)
        | (at_builtin; refine append_mat rfl (.tmp 14) (.tmp 20) rfl W.heap.size u5 rs T rfl (HW.out.1.hold hb1) _ (powL p x D.length) (hown1.low HW.out.2.1.size) (HW.out.1.fresh hown1).1 (HW.out.1.fresh hown1).2 rfl (by rw [HW.out.2.2.2]; omega) (Nat.le_trans HW.out.2.1.size hb1.size) ?_; intro g2 c2 w2 hown2 hg3 hg2))
      rw [← HW.out.2.2.1] at hown2
      exact ⟨⟨i + 1, _, by go_num, by omega, hown2, (Below.next (Nat.le_refl _) HW.out.2.1 hb1).grown hg2 (Nat.le_trans HW.out.2.1.size hb1.size) (fun b e => (HW.out.1.outer.lt b e).1)⟩, by simp [intOf]; omega⟩
    · obtain rfl : i = D.length := by omega
      rw [List.take_of_length_le (by rw [vanM_len]; exact Nat.le_refl _)] at hown
      have HW := Lib.hid (And.intro hown hb)
      clear hown hb
      go_wp2
      go_ret
      exact ⟨_, rfl, HW.out.1.matR, Below.next (Nat.le_refl _) HB.out.1 HW.out.2⟩

theorem van_mf {p s : Int} (hk : known p = true) {n i j : Nat} (hi : i < n) (hj : j < n) : mf p (vanM p n (domL p s n)) i j = Po.pwF (dpt p s n i) j := by
  have hl : i < (vanM p n (domL p s n)).length := by rw [vanM_len, domL_len]; simpa using hi
  rw [mf_row hl]
  have e : (vanM p n (domL p s n))[i] = powL p (ival p (dpt p s n i)) n := by simp [vanM, domL]
  rw [e, ph_powL hk hj, ph_ival hk]
theorem van_ap {p s : Int} (hk : known p = true) {n i : Nat} (hi : i < n) (f : Nat → Fin (Q p)) : Po.ap n (mf p (vanM p n (domL p s n))) f i = Po.ev f (dpt p s n i) n := by
  rw [Po.ev_sm]
  exact Po.sm_congr fun l hl => by rw [van_mf hk hi hl]; grind
theorem van_mt {p : Int} (hk : known p = true) {D : List Int} {n : Nat} (hD : D.length = n) : Mt p n n (vanM p n D) := by
  have hp := known_lo hk
  refine ⟨by rw [vanM_len, hD], fun i hi => vanM_row p n D hi, fun i hi y hy => ?_⟩
  simp only [vanM, List.getElem_map, powL, List.mem_map] at hy
  obtain ⟨l, _, rfl⟩ := hy
  exact ⟨Int.emod_nonneg _ (by omega), Int.emod_lt_of_pos _ (by omega)⟩
def unitL (n k : Nat) : List Int := (List.replicate n 0).set k 1
theorem unitL_len (n k : Nat) : (unitL n k).length = n := by simp [unitL]
theorem van_det {p s : Int} {n : Nat} (h : errD p s n = 0) : Po.det n (mf p (vanM p n (domL p s n))) ≠ 0 := by
  have hk := (errD_zero.1 h).1.1.1
  refine (Po.inv_det (fld hk) (one_nz hk) (X := mf p (vanM p n (domL p s n))) (A := fun i k => pf p (intL p s (unitL n k)) i) fun i hi j hj => ?_).1
  show Po.ap n _ (fun l => pf p (intL p s (unitL n j)) l) i = _
  rw [van_ap hk hi]
  have e := intL_ev (p := p) (s := s) (v := unitL n j) (by rw [unitL_len]; exact h) (k := i) (by rw [unitL_len]; exact hi)
  simp only [unitL_len] at e
  refine e.trans ?_
  simp only [unitL, List.getElem_set, List.getElem_replicate]
  unfold Po.one
  by_cases hij : i = j
  · rw [if_pos hij.symm, if_pos hij]; exact ph_one hk
  · rw [if_neg (fun e => hij e.symm), if_neg hij]; exact ph_zero hk
theorem dom_pos {p s : Int} {n : Nat} (h : errD p s n = 0) : 0 < n := by
  have := (errD_zero.1 h).1.1.2.1
  omega
/-- The matrix is a good one. -/
theorem van_ok {p s : Int} {n : Nat} (h : errD p s n = 0) (h64 : n ≤ 64) : OkM p (vanM p n (domL p s n)) ∧ cols (vanM p n (domL p s n)) = n ∧ (vanM p n (domL p s n)).length = n := by
  have hk := (errD_zero.1 h).1.1.1
  have hm := van_mt hk (D := domL p s n) (n := n) (by rw [domL_len]; simp)
  obtain ⟨h1, h2⟩ := hm.okM hk (dom_pos h) h64
  exact ⟨h1, h2, hm.len⟩
/-- The transform is the product with the matrix. -/
theorem van_apL {p s : Int} {a : List Int} (h : errD p s a.length = 0) (h64 : a.length ≤ 64) : apL p (vanM p a.length (domL p s a.length)) a = evL p a s a.length := by
  obtain ⟨h1, h2, h3⟩ := van_ok h h64
  have hk := h1.1
  unfold apL
  rw [if_pos ⟨h1, h2.symm⟩, h2, h3]
  unfold evL
  rw [Int.toNat_natCast]
  exact List.map_congr_left fun i hi => by rw [van_ap hk (List.mem_range.1 hi)]
theorem apL_of {p : Int} {n : Nat} {X : List (List Int)} {a : List Int} (hok : OkM p X) (hc : cols X = n) (hl : X.length = n) (ha : a.length = n) :
    (apL p X a).length = n ∧ Rdc p (apL p X a) ∧ ∀ i, i < n → pf p (apL p X a) i = Po.ap n (mf p X) (pf p a) i := by
  have e : apL p X a = (List.range n).map fun i => ival p (Po.ap n (mf p X) (pf p a) i) := by
    unfold apL; rw [if_pos ⟨hok, by rw [ha, hc]⟩, hl, hc]
  refine ⟨by rw [e]; simp, fun y hy => ?_, fun i hi => ?_⟩
  · rw [e] at hy
    obtain ⟨i, _, rfl⟩ := List.mem_map.1 hy
    exact ival_range hok.1 _
  · rw [pf_el _ (by rw [e]; simpa using hi)]
    simp only [e, List.getElem_map, List.getElem_range]
    exact ph_ival hok.1 _
/-- The inverse exists, and belongs to the inverse transform. -/
theorem van_inv {p s : Int} {a : List Int} {fb : Bool} {X : List (List Int)} (h : errD p s a.length = 0) (h64 : a.length ≤ 64) (hi : InvOf p (vanM p a.length (domL p s a.length)) fb X) :
    fb = true ∧ detI p (vanM p a.length (domL p s a.length)) ≠ 0 ∧ X.length = a.length ∧ (∀ i (h : i < X.length), X[i].length = a.length) ∧ apL p X a = intL p s a := by
  obtain ⟨h1, h2, h3⟩ := van_ok h h64
  have hk := h1.1
  have hfb : fb = true := by
    rcases hi.good h1 (by rw [h2, h3]) with ⟨e, _⟩ | ⟨_, _, e⟩
    · exact e
    · rw [h3] at e; exact absurd e (van_det h)
  subst hfb
  have hd := hi.det
  obtain ⟨-, -, hm, hx⟩ := hi.some
  rw [h3] at hm hx
  obtain ⟨g1, g2⟩ := hm.okM hk (dom_pos h) h64
  obtain ⟨k1, k2, k3⟩ := apL_of g1 g2 hm.len (a := a) rfl
  refine ⟨rfl, bne_iff_ne.1 hd.symm, hm.len, hm.row, same_values h k1 (intL_len p s a) k2 (intL_red hk) fun k hka => ?_⟩
  rw [intL_ev h hka, ← van_ap hk hka, Po.ap_congr (N := mf p (vanM p a.length (domL p s a.length))) (y := Po.ap a.length (mf p X) (pf p a)) (k := k) (fun _ _ => rfl) k3]
  have e := Po.mul_assoc a.length (mf p (vanM p a.length (domL p s a.length))) (mf p X) (fun l _ => pf p a l) k 0
  have e2 := Po.mul_one_left (Po.inv_right (fld hk) (one_nz hk) hx) (fun l _ => pf p a l) hka 0
  exact (e.trans e2).trans (pf_el a hka)
end Go.Proofs.Ytdcdaclkeocfpaa
