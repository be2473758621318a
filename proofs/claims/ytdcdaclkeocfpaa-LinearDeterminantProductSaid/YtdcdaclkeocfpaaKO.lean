/- Solutions and the kernel: a solution less its free elements' vectors is the one that Solve returns. -/
import Derived.Test.YtdcdaclkeocfpaaKN
namespace Go.Proofs.Ytdcdaclkeocfpaa.Po
variable {q : Nat} [NeZero q]

def zt (c : List Nat) (R : Nat → Nat → Fin q) (x : Nat → Fin q) (k : Nat) : Nat → Fin q := fun l => x l - sm (fun j => if j ∈ c then 0 else x j * kv c R j l) k
theorem zt_zero (c : List Nat) (R : Nat → Nat → Fin q) (x : Nat → Fin q) (l : Nat) : zt c R x 0 l = x l := by
  unfold zt; rw [show sm (fun j => if j ∈ c then 0 else x j * kv c R j l) 0 = 0 from rfl]; grind
theorem zt_piv {c : List Nat} (R : Nat → Nat → Fin q) (x : Nat → Fin q) {k : Nat} (h : k ∈ c) (l : Nat) : zt c R x (k + 1) l = zt c R x k l := by
  unfold zt
  rw [show sm (fun j => if j ∈ c then 0 else x j * kv c R j l) (k + 1) = sm (fun j => if j ∈ c then 0 else x j * kv c R j l) k + (if k ∈ c then 0 else x k * kv c R k l) from rfl, if_pos h]; grind
theorem zt_free {c : List Nat} (R : Nat → Nat → Fin q) (x : Nat → Fin q) {k : Nat} (h : k ∉ c) (l : Nat) : zt c R x (k + 1) l = zt c R x k l - x k * kv c R k l := by
  unfold zt
  rw [show sm (fun j => if j ∈ c then 0 else x j * kv c R j l) (k + 1) = sm (fun j => if j ∈ c then 0 else x j * kv c R j l) k + (if k ∈ c then 0 else x k * kv c R k l) from rfl, if_neg h]; grind
theorem zt_nil {c : List Nat} (R : Nat → Nat → Fin q) (x : Nat → Fin q) {n l : Nat} (hl : l < n) (h : l ∉ c) : zt c R x n l = 0 := by
  unfold zt
  rw [sm_single hl fun j _ hne => by
    by_cases e : j ∈ c
    · rw [if_pos e]
    · rw [if_neg e, kv_free R j h, if_neg (Ne.symm hne)]; grind, if_neg h, kv_free R l h, if_pos rfl]; grind
theorem ap_mulr (n : Nat) (M : Nat → Nat → Fin q) (a : Fin q) (x : Nat → Fin q) (i : Nat) : ap n M (fun l => a * x l) i = a * ap n M x i := by
  unfold ap
  rw [← sm_mul]; exact sm_congr fun l _ => by grind
theorem zt_ap {m n : Nat} {M R : Nat → Nat → Fin q} {c : List Nat} (h : Part m n R c) (hk : ∀ x, Ker m n M x ↔ Ker m n R x) (x : Nat → Fin q) {i : Nat} (hi : i < m) : ∀ k, k ≤ n → ap n M (zt c R x k) i = ap n M x i
  | 0, _ => ap_congr (fun _ _ => rfl) fun l _ => zt_zero c R x l
  | k + 1, hkn => by
    have ih := zt_ap h hk x hi k (by omega)
    by_cases e : k ∈ c
    · rw [← ih]; exact ap_congr (fun _ _ => rfl) fun l _ => zt_piv R x e l
    · rw [ap_congr (N := M) (y := fun l => zt c R x k l - x k * kv c R k l) (k := i) (fun _ _ => rfl) fun l _ => zt_free R x e l, ap_sub, ap_mulr, (hk _).2 (kv_ker h (by omega)) i hi]
      show ap n M (zt c R x k) i - _ = _
      rw [ih]; grind
end Go.Proofs.Ytdcdaclkeocfpaa.Po

namespace Go.Proofs.Ytdcdaclkeocfpaa
open Go.RowKit Go.BigFrame
open Classical

/-- The list x less the kernel's vectors for the free columns before k. -/
def zl (p : Int) (R : List (List Int)) (c : List Nat) (n : Nat) (x : List Int) : Nat → List Int
  | 0 => x
  | k + 1 => if c.contains k then zl p R c n x k else suK p (x.getD k 0) (zl p R c n x k) (kx p R c n k c.length) (zl p R c n x k).length
theorem zl_len (p : Int) (R : List (List Int)) (c : List Nat) (n : Nat) (x : List Int) : ∀ k, (zl p R c n x k).length = x.length
  | 0 => rfl
  | k + 1 => by
    rw [zl]
    split
    · exact zl_len p R c n x k
    · rw [suK_len]; exact zl_len p R c n x k
theorem ph_zl {p : Int} (hk : known p = true) {R : List (List Int)} {c : List Nat} {m n : Nat} (h : Po.Part m n (mf p R) c) {x : List Int} (hx : x.length = n) : ∀ k, k ≤ n → ∀ l, l < n → ph p ((zl p R c n x k).getD l 0) = Po.zt c (mf p R) (pf p x) k l
  | 0, _, l, _ => (Po.zt_zero c (mf p R) (pf p x) l).symm
  | k + 1, hkn, l, hl => by
    have ih := ph_zl hk h hx k (by omega) l hl
    rw [zl]
    by_cases e : k ∈ c
    · rw [if_pos (by simpa using e), Po.zt_piv _ _ e, ih]
    · rw [if_neg (by simpa using e), Po.zt_free _ _ e, ← ih]
      have h1 := congrFun (ph_suK hk (x.getD k 0) (R := zl p R c n x k) (S := kx p R c n k c.length) (by rw [kx_len, zl_len, hx])) l
      rw [h1, ← ph_kx_all hk h (by omega) e hl]; rfl
theorem sx_red {p : Int} {R : List (List Int)} {m n : Nat} (hp : 17 ≤ p) (h : Mt p m (n + 1) R) (c : List Nat) : ∀ i, Rdc p (sx R c n i)
  | 0 => fun y hy => by rw [(List.mem_replicate.1 hy).2]; omega
  | i + 1 => fun y hy => by
    rw [sx] at hy
    rcases List.mem_or_eq_of_mem_set hy with hy | rfl
    · exact sx_red hp h c i y hy
    · by_cases hi : i < R.length
      · rw [getD_row hi, getD_lt _ (by rw [h.row i hi]; omega)]
        exact h.red i hi _ (List.getElem_mem _)
      · rw [getD_out (by omega), getD_ge [] (by simp)]; omega
theorem pf_apL {p : Int} {M : List (List Int)} {x : List Int} (hok : OkM p M) (hx : x.length = cols M) {i : Nat} (hi : i < M.length) : pf p (apL p M x) i = Po.ap (cols M) (mf p M) (pf p x) i := by
  unfold apL
  rw [if_pos ⟨hok, hx⟩]
  show ph p (List.getD _ i 0) = _
  rw [getD_lt _ (by simpa using hi)]
  simp only [List.getElem_map, List.getElem_range]
  exact ph_ival hok.1 _
theorem apL_len {p : Int} {M : List (List Int)} {x : List Int} (hok : OkM p M) (hx : x.length = cols M) : (apL p M x).length = M.length := by
  unfold apL
  rw [if_pos ⟨hok, hx⟩]; simp
/-- x less the kernel's vectors for its free elements is what Solve returns for M x. -/
theorem solutions {p : Int} {M R : List (List Int)} {c : List Nat} {x X : List Int} {fb : Bool} (hok : OkM p M) (hx : x.length = cols M) (hr : Rrf p M (cols M) R c) (h : SolOf p M (apL p M x) fb X) :
    fb = true ∧ X.length = cols M ∧ ∀ l, l < cols M → (zl p R c (cols M) x (cols M)).getD l 0 % p = X.getD l 0 := by
  have hk := hok.1
  have hlen := apL_len hok hx
  cases fb with
  | false => exact absurd (fun i hi => (pf_apL hok hx hi).symm) (h.no hok hlen (pf p x))
  | true =>
    obtain ⟨-, -, hXl, hX⟩ := h.yes
    refine ⟨rfl, hXl, fun l hl => ?_⟩
    obtain ⟨S, d, he, h1 | h1⟩ := h.good hok hlen
    · obtain ⟨-, hn, rfl⟩ := h1
      have hm : 0 < M.length := by
        apply Classical.byContradiction
        intro h0
        have h2 : M = [] := List.length_eq_zero_iff.1 (by omega)
        rw [h2] at hl
        simp [cols] at hl
      obtain ⟨hp, hkw⟩ := he.wide hok.2 hm
      have hps := hp.shrink hn
      have hks := Po.wide_ker hkw
      obtain ⟨hcd, -⟩ := Po.part_unique (one_nz hk) hr.part hps fun y => (hr.ker y).symm.trans (hks y)
      have hmt : Mt p M.length (cols M + 1) S := by
        have h2 := he.mt
        rw [cols_wideL hok.2 hm, wideL_len] at h2; exact h2
      have h3 := Po.sol_unique hr.part hr.ker (b := pf p (apL p M x)) (x := Po.zt c (mf p R) (pf p x) (cols M)) (y := pf p (sx S d (cols M) d.length))
        (fun i hi => by rw [Po.zt_ap hr.part hr.ker _ hi _ (Nat.le_refl _), pf_apL hok hx hi]) hX
        (fun j hj hjc => Po.zt_nil _ _ hj hjc) (fun j hj hjc => by rw [ph_sx_all hk hp hj]; exact Po.sv_free _ _ (by rw [← hcd]; exact hjc)) l hl
      rw [← ph_zl hk hr.part hx _ (Nat.le_refl _) l hl] at h3
      have h4 : 0 ≤ (sx S d (cols M) d.length).getD l 0 ∧ (sx S d (cols M) d.length).getD l 0 < p := by
        rw [getD_lt _ (by rw [sx_len]; exact hl)]
        exact sx_red (known_lo hk) hmt d _ _ (List.getElem_mem _)
      have h5 := (ph_eq hk).1 h3
      rw [h5, Int.emod_eq_of_lt h4.1 h4.2]
    · exact absurd h1.1 (by decide)
end Go.Proofs.Ytdcdaclkeocfpaa
