/- The reduced form of a matrix of numbers is one; the walk of the reference's Reduce (05). -/
import Derived.Test.YtdcdaclkeocfpaaKE
namespace Go.Proofs.Ytdcdaclkeocfpaa
open Go.RowKit Go.BigFrame
open Classical

/-- R is the reduced form of M (n columns), with the pivots c. -/
structure Rrf (p : Int) (M : List (List Int)) (n : Nat) (R : List (List Int)) (c : List Nat) : Prop where
  mt : Mt p M.length n R
  part : Po.Part M.length n (mf p R) c
  ker : ∀ x, Po.Ker M.length n (mf p M) x ↔ Po.Ker M.length n (mf p R) x
theorem Elm.rrf {p : Int} {M R : List (List Int)} {n : Nat} {c : List Nat} (h : Elm p M n R c) : Rrf p M n R c := ⟨h.mt, h.part, h.ops.ker n⟩
theorem one_nz {p : Int} (hk : known p = true) : (1 : Fin (Q p)) ≠ 0 := fun h => by
  have := known_lo hk
  rw [← ph_one hk, ph_eq_zero hk, Int.emod_eq_of_lt (by omega) (by omega)] at h
  omega
theorem Mt.ext {p : Int} (hk : known p = true) {m n : Nat} {R S : List (List Int)} (hR : Mt p m n R) (hS : Mt p m n S) (h : ∀ i, i < m → ∀ j, j < n → mf p R i j = mf p S i j) : R = S := by
  refine List.ext_getElem (by rw [hR.len, hS.len]) fun i h1 h2 => List.ext_getElem (by rw [hR.row i h1, hS.row i h2]) fun j g1 g2 => ?_
  have h3 := h i (by rw [← hR.len]; exact h1) j (by rw [← hR.row i h1]; exact g1)
  rw [mf_row h1, mf_row h2, getD_lt _ g1, getD_lt _ g2, ph_eq hk] at h3
  have h4 := hR.red i h1 _ (List.getElem_mem g1)
  have h5 := hS.red i h2 _ (List.getElem_mem g2)
  rwa [Int.emod_eq_of_lt h4.1 h4.2, Int.emod_eq_of_lt h5.1 h5.2] at h3
/-- There is one reduced form. -/
theorem Rrf.unique {p : Int} (hk : known p = true) {M R S : List (List Int)} {n : Nat} {c d : List Nat} (hR : Rrf p M n R c) (hS : Rrf p M n S d) : R = S ∧ c = d := by
  obtain ⟨h1, h2⟩ := Po.part_unique (one_nz hk) hR.part hS.part fun x => (hR.ker x).symm.trans (hS.ker x)
  exact ⟨Mt.ext hk hR.mt hS.mt h2, h1⟩
theorem exists_rrf {p : Int} (hk : known p = true) (m n : Nat) (M : Nat → Nat → Fin (Q p)) : ∃ R c, Po.Ops m M R ∧ Po.Part m n R c := Po.exists_part (fld hk) m M n

def OkM (p : Int) (M : List (List Int)) : Prop := known p = true ∧ Vld M
/-- What Reduce returns. -/
def RedOf (p : Int) (M R : List (List Int)) (c : List Nat) : Prop := (OkM p M → Rrf p M (cols M) R c) ∧ (¬ OkM p M → R = [] ∧ c = [])
theorem RedOf.unique {p : Int} {M R S : List (List Int)} {c d : List Nat} (hR : RedOf p M R c) (hS : RedOf p M S d) : R = S ∧ c = d := by
  by_cases h : OkM p M
  · exact (hR.1 h).unique h.1 (hS.1 h)
  · have h1 := hR.2 h
    have h2 := hS.2 h
    exact ⟨by rw [h1.1, h2.1], by rw [h1.2, h2.2]⟩
theorem okM_dec (p : Int) (M : List (List Int)) : (known p && decide (Vld M)) = decide (OkM p M) := by
  by_cases hk : known p = true
  · by_cases hv : Vld M
    · rw [hk, decide_eq_true hv, decide_eq_true (show OkM p M from ⟨hk, hv⟩)]; rfl
    · rw [hk, decide_eq_false hv, decide_eq_false fun h : OkM p M => hv h.2]; rfl
  · have : known p = false := by simpa using hk
    rw [this, decide_eq_false fun h : OkM p M => hk h.1]; rfl

set_option maxHeartbeats 1000000 in
theorem kReduce_u (p : Int) [hpU : U p] (v : Value) (M : List (List Int)) (w : World) (hM : MatR w v M) (hn : M.length ≤ 100000) (hr : ∀ i (h : i < M.length), M[i].length ≤ 100000) :
    Calls Try.prog 20 #[.int .u64 p, v] w fun e w' => ∃ v1 v2 rs R c, e = .returned (.tuple #[v1, v2]) ∧ OwnM w' w.heap.size v1 rs R ∧ OwI w' w.heap.size v2 c ∧ RedOf p M R c ∧ Below w.heap.size w w' := by
  have HM := Lib.hid (And.intro hM hr)
  clear hM hr
  by_cases hok : OkM p M
  · have hd : (known p && decide (Vld M)) = true := by rw [okM_dec, decide_eq_true hok]
    have h64 := hok.2.2
    have hc64 := hok.2.cols
    have HK := Lib.hid (And.intro hd hok)
    clear hd hok
    go_enter Try.func20, Try.ntmps20
    go_wp2_with (first
      | (go_at_call 64; refine (kok_u p v M _ HM.out.1 hn HM.out.2).mono ?_; rintro e w1 ⟨rfl, hb1⟩; rw [HK.out.1])
      | (go_at_call 65; refine (keliminate_u p HK.out.2.1 v M (cols M) _ (HM.out.1.hold hb1.b) (fun i h => (HK.out.2.2.1 i h).1) rfl (by omega) (by omega)).mono ?_; rintro _ w2 ⟨v1, v2, rs, R, c, rfl, hown, howi, helm, hb2⟩))
    refine bodyPost_ret (results_tmp2 rfl _ _ _) rfl ?_
    exact ⟨_, _, rs, R, c, rfl, hown.low hb1.b.size, howi.low hb1.b.size, ⟨fun _ => helm.rrf, fun h => absurd HK.out.2 h⟩, Below.next (Nat.le_refl _) hb1.b hb2⟩
  · have hd : (known p && decide (Vld M)) = false := by rw [okM_dec, decide_eq_false hok]
    have HK := Lib.hid (And.intro hd hok)
    clear hd hok
    go_enter Try.func20, Try.ntmps20
    go_wp2_with (go_at_call 64; refine (kok_u p v M _ HM.out.1 hn HM.out.2).mono ?_; rintro e w1 ⟨rfl, hb1⟩; rw [HK.out.1])
    refine bodyPost_ret (results_tmp2 rfl _ _ _) rfl ?_
    exact ⟨_, _, fun _ => undef, [], [], rfl, OwnM.nil _ _ _, OwI.nil _ _, ⟨fun h => absurd h HK.out.2, fun _ => ⟨rfl, rfl⟩⟩, hb1.b⟩
end Go.Proofs.Ytdcdaclkeocfpaa
