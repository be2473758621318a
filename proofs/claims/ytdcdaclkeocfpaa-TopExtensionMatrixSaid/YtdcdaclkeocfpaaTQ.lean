/- The walk of math/bits Len64 at small numbers. The walk of math/bits Reverse64 at numbers of twelve bits. The walk of math/bits Reverse64. What package transform returns, and the walks of the reference's Length, Domain, Eval. The walks of the reference's Eval, Evaluate, Same, Reduced. The walks of the reference's Same, Reduced, Interpolate. The walk of the reference's Interpolate (04). What package transform returns on the document's examples; lists that are written out. The root of a length is primitive; what the coefficients of Interpolate are. What walks of a fast transform want: shifts, inverse roots, folds, products by values, the least power of two. The walks of package transform's rootOf, powerOfTwo, Domain. The walk of package transform's reversed. The walk of package transform's join. The levels of the transform, and what one join does to them. The walk of package transform's transform. The walk of package transform's onRoots: the coefficients folded to n of them. The walks of package transform's Evaluate and Forward. The walks of package transform's Interpolate and Inverse. The walk of package transform's Multiply. The contracts of package transform's functions, as the laws want them. -/
import Derived.Test.YtdcdaclkeocfpaaRvA
import Derived.Test.YtdcdaclkeocfpaaRef
import Derived.Test.YtdcdaclkeocfpaaFft
import Derived.Test.YtdcdaclkeocfpaaOB
import Derived.Test.YtdcdaclkeocfpaaLawE
import Derived.Test.YtdcdaclkeocfpaaFieldO
namespace Go.Proofs.Ytdcdaclkeocfpaa
open Go.RowKit

/-- Neighbours of s bits are exchanged (m: the mask of the lower ones, t: 2^s). -/
def swp (m t x : Int) : Int := bits .or .u64 (bits .and .u64 (x / t) m) (IntKind.u64.wrap (bits .and .u64 x m * t))
def rvA (x : Int) : Int := swp 6148914691236517205 2 x
def rvB (x : Int) : Int := swp 3689348814741910323 4 (rvA x)
def rvC (x : Int) : Int := swp 1085102592571150095 16 (rvB x)
def rvD (x : Int) : Int := swp 71777214294589695 256 (rvC x)
def rvE (x : Int) : Int := swp 281470681808895 65536 (rvD x)
def rvF (x : Int) : Int := bits .or .u64 (rvE x / 4294967296) (IntKind.u64.wrap (rvE x * 4294967296))
theorem rvF_small : ∀ a : Fin 64, ∀ b : Fin 64, rvF ((64 * a.val + b.val : Nat) : Int) = ((rev 12 (64 * a.val + b.val) * 4503599627370496 : Nat) : Int) := by decide +kernel
theorem rvF_at {i : Nat} (h : i < 4096) : rvF (i : Int) = ((rev 12 i * 4503599627370496 : Nat) : Int) := by
  have := rvF_small ⟨i / 64, by omega⟩ ⟨i % 64, by omega⟩
  simp only [show 64 * (i / 64) + i % 64 = i by omega] at this
  exact this
theorem rev_more : ∀ c b {j : Nat}, j < 2 ^ b → rev (b + c) j = 2 ^ c * rev b j
  | c, 0, j, h => by
    obtain rfl : j = 0 := by simp at h; exact h
    have : ∀ n, rev n 0 = 0 := fun n => by induction n with
      | zero => rfl
      | succ n ih => rw [rev, ih]; simp
    rw [this, this]; simp
  | c, b + 1, j, h => by
    rw [show b + 1 + c = (b + c) + 1 by omega, rev, rev, rev_more c b (by rw [Nat.pow_succ] at h; omega), Nat.pow_add, Nat.mul_add, ← Nat.mul_assoc, Nat.mul_comm (2 ^ b) (2 ^ c)]
/-- The b lowest bits, turned. -/
theorem rvF_shr {b i : Nat} (hb : b ≤ 12) (h : i < 2 ^ b) : rvF (i : Int) / 2 ^ (64 - b) = (rev b i : Int) := by
  have h12 : i < 4096 := Nat.lt_of_lt_of_le h (Nat.pow_le_pow_right (by decide) hb)
  obtain ⟨c, hc⟩ : ∃ c, 12 = b + c := ⟨12 - b, by omega⟩
  rw [rvF_at h12, hc, rev_more c b h]
  have e : 2 ^ c * rev b i * 4503599627370496 = rev b i * 2 ^ (64 - b) := by
    rw [show 64 - b = c + 52 by omega, Nat.pow_add, Nat.mul_comm (2 ^ c), Nat.mul_assoc]
  rw [e]
  have hp : (2 ^ (64 - b) : Int) = ((2 ^ (64 - b) : Nat) : Int) := by simp
  rw [hp]
  have : 0 < 2 ^ (64 - b) := Nat.two_pow_pos _
  rw [← Int.natCast_ediv, Nat.mul_div_cancel _ this]
end Go.Proofs.Ytdcdaclkeocfpaa

namespace Go.Proofs.Ytdcdaclkeocfpaa
open Go.RowKit Go.BigFrame

theorem swp_bd (m t x : Int) : 0 ≤ swp m t x ∧ swp m t x ≤ 18446744073709551615 := ⟨bits_lo_u64 _ _ _, bits_hi_u64 _ _ _⟩

set_option maxHeartbeats 4000000 in
theorem reverseBytes_u (x : Int) (w : World) :
    Calls Try.prog 124 #[.int .u64 x] w fun e w' => e = .returned (.int .u64 (bits .or .u64 (swp 281470681808895 65536 (swp 71777214294589695 256 x) / 4294967296) (IntKind.u64.wrap (swp 281470681808895 65536 (swp 71777214294589695 256 x) * 4294967296)))) ∧ w' = w := by
  obtain ⟨y, hy⟩ : ∃ y, y = swp 71777214294589695 256 x := ⟨_, rfl⟩
  obtain ⟨z, hz⟩ : ∃ z, z = swp 281470681808895 65536 y := ⟨_, rfl⟩
  have by0 := swp_bd 71777214294589695 256 x
  have bz0 := swp_bd 281470681808895 65536 y
  rw [← hy] at by0 ⊢
  rw [← hz] at bz0 ⊢
  obtain ⟨y0, y1⟩ := by0
  obtain ⟨z0, z1⟩ := bz0
  unfold swp at hy hz
  have HY := Lib.hid hy
  have HZ := Lib.hid hz
  clear hy hz
  go_enter Try.func124, Try.ntmps124
  go_upto_region 2 with fail
  rw [← HY.out]
  go_upto_region 3 with fail
  rw [← HZ.out]
  go_wp2
  go_ret
  exact ⟨rfl, rfl⟩

set_option maxHeartbeats 4000000 in
theorem reverse_u (x : Int) (w : World) :
    Calls Try.prog 123 #[.int .u64 x] w fun e w' => e = .returned (.int .u64 (rvF x)) ∧ w' = w := by
  obtain ⟨y, hy⟩ : ∃ y, y = rvA x := ⟨_, rfl⟩
  obtain ⟨z, hz⟩ : ∃ z, z = rvB x := ⟨_, rfl⟩
  obtain ⟨u, hu⟩ : ∃ u, u = rvC x := ⟨_, rfl⟩
  have hf : rvF x = bits .or .u64 (swp 281470681808895 65536 (swp 71777214294589695 256 u) / 4294967296) (IntKind.u64.wrap (swp 281470681808895 65536 (swp 71777214294589695 256 u) * 4294967296)) := by rw [hu]; rfl
  obtain ⟨y0, y1⟩ : 0 ≤ y ∧ y ≤ 18446744073709551615 := by rw [hy]; exact swp_bd _ _ _
  obtain ⟨z0, z1⟩ : 0 ≤ z ∧ z ≤ 18446744073709551615 := by rw [hz]; exact swp_bd _ _ _
  obtain ⟨u0, u1⟩ : 0 ≤ u ∧ u ≤ 18446744073709551615 := by rw [hu]; exact swp_bd _ _ _
  unfold rvC at hu
  rw [← hz] at hu
  unfold rvB at hz
  rw [← hy] at hz
  unfold rvA at hy
  unfold swp at hy hz hu
  rw [hf]
  have HF := Lib.hid hf
  have HY := Lib.hid hy
  have HZ := Lib.hid hz
  have HU := Lib.hid hu
  clear hf hy hz hu
  go_enter Try.func123, Try.ntmps123
  go_upto_region 2 with fail
  rw [← HY.out]
  go_upto_region 3 with fail
  rw [← HZ.out]
  go_upto_region 4 with fail
  rw [← HU.out]
  go_wp2_with (go_at_call 124; refine (reverseBytes_u u _).mono ?_; rintro e w' ⟨rfl, rfl⟩)
  go_ret
  exact ⟨rfl, rfl⟩
end Go.Proofs.Ytdcdaclkeocfpaa

namespace Go.Proofs.Ytdcdaclkeocfpaa
open Go.RowKit Go.BigFrame
open Classical

/-- n is a valid length. -/
def LenOk (p n : Int) : Prop := RootOk p n ∧ n ≤ 4096
/-- The root of a length. -/
def rtw (p n : Int) : Int := pw p (gen p) ((p - 1) / n)
instance {p n : Int} : U (rtw p n) := instUpw
/-- A point of a domain. -/
def dpt (p s n : Int) (i : Nat) : Fin (Q p) := Po.dom (ph p s) (ph p (rtw p n)) i
noncomputable def errD (p s n : Int) : Int := if known p = true then (if LenOk p n ∧ s % p ≠ 0 then 0 else 1) else 7
def domL (p s n : Int) : List Int := (List.range n.toNat).map fun i => ival p (dpt p s n i)
noncomputable def resD (p s n : Int) : List Int := if errD p s n = 0 then domL p s n else []
/-- A list and an error are returned. -/
def Pair (w : World) (l : List Int) (er : Int) (e : Ending) (w' : World) : Prop := ∃ v, e = .returned (.tuple #[v, .int .i64 er]) ∧ Own w' w.heap.size v l ∧ Below w.heap.size w w'

theorem errD_ok {p s n : Int} (hl : LenOk p n) (hs : s % p ≠ 0) : errD p s n = 0 := by rw [errD, if_pos hl.1.1, if_pos ⟨hl, hs⟩]
theorem errD_zero {p s n : Int} : errD p s n = 0 ↔ LenOk p n ∧ s % p ≠ 0 := by
  unfold errD
  by_cases hk : known p = true
  · rw [if_pos hk]
    by_cases h : LenOk p n ∧ s % p ≠ 0
    · rw [if_pos h]; exact ⟨fun _ => h, fun _ => rfl⟩
    · rw [if_neg h]; exact ⟨fun e => by omega, fun h' => absurd h' h⟩
  · rw [if_neg hk]; exact ⟨fun e => by omega, fun h => absurd h.1.1.1 hk⟩
theorem ival_mul {p : Int} (hk : known p = true) (a b : Int) : ml p a b = ival p (ph p a * ph p b) := by
  refine ival_of (fun _ => ⟨?_, ph_ml hk a b⟩) fun h => by rw [hk] at h; cases h
  rw [ml, if_pos hk]
  have := known_lo hk
  exact ⟨Int.emod_nonneg _ (by omega), Int.emod_lt_of_pos _ (by omega)⟩
theorem ival_ph {p : Int} (hk : known p = true) (a : Int) : a % p = ival p (ph p a) := by
  refine ival_of (fun _ => ⟨?_, ph_emod hk a⟩) fun h => by rw [hk] at h; cases h
  have := known_lo hk
  exact ⟨Int.emod_nonneg _ (by omega), Int.emod_lt_of_pos _ (by omega)⟩

theorem dpt_zero (p s n : Int) : dpt p s n 0 = ph p s := by show ph p s * 1 = ph p s; grind
theorem dpt_succ {p : Int} (hk : known p = true) (s n : Int) (k : Nat) : ml p (ival p (dpt p s n k)) (rtw p n) = ival p (dpt p s n (k + 1)) := by
  rw [ival_mul hk, ph_ival hk]
  congr 1
  show ph p s * Po.pwF _ k * ph p (rtw p n) = ph p s * (Po.pwF _ k * ph p (rtw p n))
  grind
theorem domL_len (p s n : Int) : (domL p s n).length = n.toNat := by simp [domL]
theorem domL_take {p s n : Int} {k : Nat} (h : k < n.toNat) : (domL p s n).take (k + 1) = (domL p s n).take k ++ [ival p (dpt p s n k)] := by
  rw [take_snoc (by rw [domL_len]; exact h)]
  simp [domL]

end Go.Proofs.Ytdcdaclkeocfpaa

namespace Go.Proofs.Ytdcdaclkeocfpaa
open Go.RowKit Go.BigFrame
open Classical

noncomputable def errE (p : Int) (a : List Int) (s n : Int) : Int := if errD p s n = 0 then (if a.length ≤ 8192 then 0 else 3) else errD p s n
/-- The values at the points of a domain. -/
def evL (p : Int) (a : List Int) (s n : Int) : List Int := (List.range n.toNat).map fun i => ival p (Po.ev (pf p a) (dpt p s n i) a.length)
noncomputable def resE (p : Int) (a : List Int) (s n : Int) : List Int := if errE p a s n = 0 then evL p a s n else []
theorem errD_cases (p s n : Int) : errD p s n = 0 ∨ errD p s n = 1 ∨ errD p s n = 7 := by
  unfold errD
  split
  · split
    · exact .inl rfl
    · exact .inr (.inl rfl)
  · exact .inr (.inr rfl)
theorem updK_evL {p : Int} (a : List Int) (s n : Int) : updK (fun i => ival p (Po.ev (pf p a) (dpt p s n i) a.length)) (domL p s n) 0 (domL p s n).length = evL p a s n := by
  refine List.ext_getElem (by rw [updK_len, domL_len]; simp [evL]) fun i h1 h2 => ?_
  rw [updK_len] at h1
  simp only [updK, evL, List.getElem_map, List.getElem_range]
  rw [if_pos (by omega)]

end Go.Proofs.Ytdcdaclkeocfpaa

namespace Go.Proofs.Ytdcdaclkeocfpaa
open Go.RowKit Go.BigFrame
open Classical

theorem list_eq_iff {l m : List Int} (h : l.length = m.length) : l = m ↔ ∀ i, i < l.length → l.getD i 0 = m.getD i 0 := by
  constructor
  · rintro rfl i _; rfl
  · intro hh
    refine List.ext_getElem h fun i h1 h2 => ?_
    have := hh i h1
    rwa [getD_lt _ h1, getD_lt _ h2] at this

end Go.Proofs.Ytdcdaclkeocfpaa

namespace Go.Proofs.Ytdcdaclkeocfpaa
open Go.RowKit Go.BigFrame
open Classical

/-- The value at a power of the root. -/
def tval (p : Int) (v : List Int) (j : Nat) : Fin (Q p) := Po.ev (pf p v) (Po.pwF (ph p (rtw p v.length)) j) v.length
/-- The factor of the i-th coefficient. -/
def tfac (p s : Int) (n i : Nat) : Fin (Q p) := ph p (iv p n) * Po.pwF (ph p (iv p (s % p))) i
/-- The coefficients. -/
def intL (p s : Int) (v : List Int) : List Int := (List.range v.length).map fun i => ival p (tval p v ((v.length - i) % v.length) * tfac p s v.length i)
noncomputable def resI (p s : Int) (v : List Int) : List Int := if errD p s v.length = 0 then intL p s v else []
/-- The values in the reverse order. -/
def revL (p : Int) (v : List Int) : List Int := (List.range v.length).map fun i => ival p (tval p v ((v.length - i) % v.length))
theorem revL_len (p : Int) (v : List Int) : (revL p v).length = v.length := by simp [revL]
theorem revL_at {p : Int} {v : List Int} {i : Nat} (h : i < (revL p v).length) : (revL p v)[i] = ival p (tval p v ((v.length - i) % v.length)) := by simp [revL]
theorem dpt_one {p : Int} (hk : known p = true) (n : Int) (i : Nat) : dpt p 1 n i = Po.pwF (ph p (rtw p n)) i := by
  show ph p 1 * Po.pwF _ i = _
  rw [ph_one hk]; grind
theorem evL_at {p : Int} (hk : known p = true) (v : List Int) {i : Nat} (h : i < v.length) : (evL p v 1 v.length)[i]'(by simp [evL]; exact h) = ival p (tval p v i) := by
  simp only [evL, List.getElem_map, List.getElem_range, dpt_one hk]
  rfl
theorem evL_len (p : Int) (a : List Int) (s : Int) (n : Nat) : (evL p a s n).length = n := by simp [evL]
theorem one_mod {p : Int} (hk : known p = true) : (1 : Int) % p ≠ 0 := by
  have := known_lo hk
  rw [Int.emod_eq_of_lt (by omega) (by omega)]; decide
theorem tfac_succ {p : Int} (hk : known p = true) (s : Int) (n i : Nat) : ml p (ival p (tfac p s n i)) (iv p (s % p)) = ival p (tfac p s n (i + 1)) := by
  rw [ival_mul hk, ph_ival hk]
  congr 1
  show ph p (iv p n) * Po.pwF _ i * ph p (iv p (s % p)) = ph p (iv p n) * (Po.pwF _ i * ph p (iv p (s % p)))
  grind
theorem tfac_zero {p : Int} (hk : known p = true) (s : Int) (n : Nat) : iv p n = ival p (tfac p s n 0) := by
  refine ival_of (fun _ => ⟨?_, ?_⟩) fun h => by rw [hk] at h; cases h
  · have := known_lo hk
    show 0 ≤ pw p _ _ ∧ pw p _ _ < p
    rw [pw, if_pos hk]
    exact ⟨Int.emod_nonneg _ (by omega), Int.emod_lt_of_pos _ (by omega)⟩
  · show _ = ph p (iv p n) * 1
    grind
theorem updK_intL {p : Int} (hk : known p = true) (s : Int) (v : List Int) : updK (fun i => ml p ((revL p v).getD i 0) (ival p (tfac p s v.length i))) (revL p v) 0 (revL p v).length = intL p s v := by
  refine List.ext_getElem (by rw [updK_len, revL_len]; simp [intL]) fun i h1 h2 => ?_
  rw [updK_len] at h1
  simp only [updK, intL, List.getElem_map, List.getElem_range]
  rw [if_pos (by omega), getD_lt _ h1, revL_at h1, ival_mul hk, ph_ival hk, ph_ival hk]

end Go.Proofs.Ytdcdaclkeocfpaa

namespace Go.Proofs.Ytdcdaclkeocfpaa
open Go.RowKit Go.BigFrame
open Classical

/-- A list that is read, and an error. -/
def PairL (w : World) (l : List Int) (er : Int) (e : Ending) (w' : World) : Prop := ∃ v, e = .returned (.tuple #[v, .int .i64 er]) ∧ Lst w' v l ∧ Below w.heap.size w w'
theorem pairL_of {w : World} {l : List Int} {er : Int} (e : Ending) (w' : World) (h : Pair w l er e w') : PairL w l er e w' := by
  obtain ⟨v, he, ho, hb⟩ := h
  exact ⟨v, he, ho.lst, hb⟩
/-- The least power of two that is at least n. -/
def fitsN (n : Nat) : Nat := if n ≤ 1 then 1 else 2 ^ ((n - 1).log2 + 1)
/-- The product, with all its coefficients. -/
def mulL (p : Int) (a b : List Int) : List Int := (List.range (a.length + b.length - 1)).map fun i => ival p (Po.cv (pf p a) (pf p b) i)
noncomputable def errM (p : Int) (a b : List Int) : Int := if known p = true then (if a.length = 0 ∨ b.length = 0 ∨ LenOk p (fitsN (a.length + b.length - 1)) then 0 else 3) else 7
noncomputable def resM (p : Int) (a b : List Int) : List Int := if errM p a b = 0 ∧ a.length ≠ 0 ∧ b.length ≠ 0 then mulL p a b else []

theorem len_17_4 : LenOk 17 4 := ⟨⟨by decide, by decide, ⟨2, rfl⟩, by decide⟩, by decide⟩
theorem len_17_2 : LenOk 17 2 := ⟨⟨by decide, by decide, ⟨1, rfl⟩, by decide⟩, by decide⟩
theorem ex_errE : errE 17 [1, 2, 0, 0] 1 4 = 0 := by rw [errE, if_pos (errD_ok len_17_4 (by decide)), if_pos (by decide)]
theorem ex_resE : resE 17 [1, 2, 0, 0] 1 4 = [3, 10, 16, 9] := by rw [resE, if_pos ex_errE]; decide +kernel
theorem ex_errI : errD 17 1 4 = 0 := errD_ok len_17_4 (by decide)
theorem ex_resI : resI 17 1 [3, 10, 16, 9] = [1, 2, 0, 0] := by
  have h : errD 17 1 (([3, 10, 16, 9] : List Int).length : Int) = 0 := errD_ok len_17_4 (by decide)
  rw [resI, if_pos h]; decide +kernel
theorem ex_errD : errD 17 3 2 = 0 := errD_ok len_17_2 (by decide)
theorem ex_resD : resD 17 3 2 = [3, 14] := by rw [resD, if_pos ex_errD]; decide +kernel
theorem ex_errM : errM 17 [1, 2] [3, 1] = 0 := by
  rw [errM, if_pos (by decide), if_pos (.inr (.inr len_17_4))]
theorem ex_resM : resM 17 [1, 2] [3, 1] = [3, 7, 2] := by
  rw [resM, if_pos ⟨ex_errM, by decide, by decide⟩]; decide +kernel

theorem lit_of {w : World} {b : Nat} (hb : b = w.heap.size) (l : List Int) (hl : l.length ≤ 1000000) (hu : Us l) {cs : Array Value} (hc : cs = (vs l).toArray) : Lst (w.alloc (.cells cs 22)) (.slice (some ⟨b, 0, none⟩) l.length l.length) l := by
  subst hb hc
  exact (own_of (base := w.heap.size) (Nat.le_refl _) (heap_alloc_new w _) hl hu).lst
theorem us_small {l : List Int} (h : l.all (fun x => decide (0 ≤ x) && decide (x ≤ 1000)) = true) : Us l := fun x hx => by
  have := List.all_eq_true.1 h x hx
  simp at this
  exact ⟨this.1, by omega⟩
theorem Lst.over {w : World} {v : Value} {l : List Int} (h : Lst w v l) (o : Obj) : Lst (w.alloc o) v l := h.hold (Below.made (Nat.le_refl _) (Below.refl _ _) o)
end Go.Proofs.Ytdcdaclkeocfpaa

namespace Go.Proofs.Ytdcdaclkeocfpaa
open Go.RowKit
open Classical

theorem pf_el {p : Int} (l : List Int) {i : Nat} (h : i < l.length) : pf p l i = ph p l[i] := by show ph p _ = _; rw [getD_lt _ h]
theorem ival_range {p : Int} (hk : known p = true) (z : Fin (Q p)) : 0 ≤ ival p z ∧ ival p z < p := by
  unfold ival
  rw [if_pos hk]
  have := z.isLt
  have := q_eq hk
  omega
theorem ph_pow {p : Int} (hk : known p = true) (x : Int) (m : Nat) : ph p (x ^ m) = Po.pwF (ph p x) m := by
  induction m with
  | zero => rw [Int.pow_zero, ph_one hk]; rfl
  | succ m ih => rw [Int.pow_succ, ← ph_mul hk, ih]; rfl
theorem ph_pw {p : Int} (hk : known p = true) (x e : Int) : ph p (pw p x e) = Po.pwF (ph p x) e.toNat := by
  rw [pw, if_pos hk, ph_emod hk, ph_pow hk]
theorem minus_ne {p : Int} (hk : known p = true) : (0 - 1 : Fin (Q p)) ≠ 1 := by
  rw [← ph_zero hk, ← ph_one hk, ph_sub hk]
  intro h
  rw [ph_eq hk] at h
  have := known_lo hk
  have h1 : (0 - 1 : Int) % p = p - 1 := by
    rw [show (0 - 1 : Int) = (p - 1) + p * (-1) by omega, Int.add_mul_emod_self_left]
    exact Int.emod_eq_of_lt (by omega) (by omega)
  rw [h1, Int.emod_eq_of_lt (by omega) (by omega)] at h
  omega
theorem len_prim {p n : Int} (h : LenOk p n) : Po.Prim (ph p (rtw p n)) n.toNat := by
  have hk := h.1.1
  have hpl := known_lo hk
  by_cases h1 : n = 1
  · subst h1
    have e : rtw p 1 = 1 := root_one hk
    rw [e, ph_one hk]
    exact ⟨Po.pwF_one _, fun d h0 hd => by have : (1 : Int).toNat = 1 := rfl; omega⟩
  · have hn := h.1.2.1
    obtain ⟨k, hkn⟩ := h.1.2.2.1
    cases k with
    | zero => simp at hkn; omega
    | succ k =>
      have hh := root_half h.1 (by omega)
      have hc := ph_pw hk (rtw p n) (n / 2)
      have hpw : pw p (rtw p n) (n / 2) = p - 1 := hh
      rw [hpw] at hc
      have e1 : (n / 2).toNat = 2 ^ k := by rw [hkn, Nat.pow_succ]; omega
      have e2 : ph p (p - 1) = 0 - 1 := by
        rw [← ph_sub hk, ph_one hk]
        have : ph p p = 0 := (ph_eq_zero hk p).2 (Int.emod_self)
        rw [this]
      rw [e1, e2] at hc
      have := Po.prim_two (minus_ne hk) k (ph p (rtw p n)) hc.symm
      rw [show n.toNat = 2 ^ (k + 1) by rw [hkn]; exact Int.toNat_natCast _]
      exact this
theorem sm_ones {p : Int} (hk : known p = true) : ∀ n : Nat, Po.sm (fun _ => (1 : Fin (Q p))) n = ph p n
  | 0 => (ph_zero hk).symm
  | n + 1 => by
    rw [Po.sm, sm_ones hk n, ← ph_one hk, ph_add hk]
    rfl
theorem len_lt {p n : Int} (h : LenOk p n) : 0 < n ∧ n < p := by
  have hpl := known_lo h.1.1
  have h1 := h.1.2.1
  have h3 := h.1.2.2.2
  have := Int.le_of_dvd (show 0 < p - 1 by omega) (Int.dvd_of_emod_eq_zero h3)
  omega
theorem inv_len {p n : Int} (h : LenOk p n) : ph p (iv p n) * Po.sm (fun _ => 1) n.toNat = 1 := by
  have h1 := len_lt h
  rw [sm_ones h.1.1, Int.toNat_of_nonneg (by omega)]
  exact ph_iv h.1.1 (by omega) (by rw [Int.emod_eq_of_lt (by omega) (by omega)]; omega)
theorem inv_shift {p s : Int} (hk : known p = true) (hs : s % p ≠ 0) : ph p s * ph p (iv p (s % p)) = 1 := by
  have hpl := known_lo hk
  have h1 := ph_iv hk (b := s % p) (Int.emod_nonneg _ (by omega)) (by rwa [Int.emod_emod])
  rw [ph_emod hk] at h1
  rw [← h1]; grind
theorem shift_ne {p s : Int} (hk : known p = true) (hs : s % p ≠ 0) : ph p s ≠ 0 := fun h => hs ((ph_eq_zero hk s).1 h)

theorem ival_inj {p : Int} (hk : known p = true) {x y : Fin (Q p)} (h : ival p x = ival p y) : x = y := by rw [← ph_ival hk x, ← ph_ival hk y, h]
theorem ev_first {p : Int} {f g : Nat → Fin (Q p)} (x : Fin (Q p)) {n : Nat} (h : ∀ i, i < n → f i = g i) : Po.ev f x n = Po.ev g x n := by
  rw [Po.ev_sm, Po.ev_sm]; exact Po.sm_congr fun i hi => by rw [h i hi]
theorem intL_len (p s : Int) (v : List Int) : (intL p s v).length = v.length := by simp [intL]
/-- The coefficients have the values. -/
theorem intL_ev {p s : Int} {v : List Int} (h : errD p s v.length = 0) {k : Nat} (hkv : k < v.length) : Po.ev (pf p (intL p s v)) (dpt p s v.length k) v.length = ph p v[k] := by
  obtain ⟨hl, hs⟩ := errD_zero.1 h
  have hk := hl.1.1
  have hn : ((v.length : Int)).toNat = v.length := Int.toNat_natCast _
  have hprim := len_prim hl
  have hni := inv_len hl
  rw [hn] at hprim hni
  have hmain := Po.inverse (fld hk) hprim (inv_shift hk hs) hni (pf p v) hkv
  rw [show pf p v k = ph p v[k] from pf_el v hkv] at hmain
  rw [← hmain]
  refine ev_first _ fun i hi => ?_
  rw [pf_el (intL p s v) (by rw [intL_len]; exact hi)]
  have e : (intL p s v)[i]'(by rw [intL_len]; exact hi) = ival p (tval p v ((v.length - i) % v.length) * tfac p s v.length i) := by simp [intL]
  rw [e, ph_ival hk]
  rfl
theorem intL_red {p s : Int} {v : List Int} (hk : known p = true) : ∀ y ∈ intL p s v, 0 ≤ y ∧ y < p := fun y hy => by
  simp only [intL, List.mem_map] at hy
  obtain ⟨i, _, rfl⟩ := hy
  exact ival_range hk _
/-- Two lists of reduced elements with the same values are equal. -/
theorem same_values {p s : Int} {n : Nat} (h : errD p s n = 0) {l m : List Int} (hl : l.length = n) (hm : m.length = n) (hlr : ∀ y ∈ l, 0 ≤ y ∧ y < p) (hmr : ∀ y ∈ m, 0 ≤ y ∧ y < p)
    (e : ∀ k, k < n → Po.ev (pf p l) (dpt p s n k) n = Po.ev (pf p m) (dpt p s n k) n) : l = m := by
  obtain ⟨hlen, hs⟩ := errD_zero.1 h
  have hk := hlen.1.1
  have hprim := len_prim hlen
  rw [show ((n : Int)).toNat = n from Int.toNat_natCast _] at hprim
  have hf := Po.dom_unique (fld hk) hprim (shift_ne hk hs) (by have := pf_deg hk l; rwa [hl] at this) (by have := pf_deg hk m; rwa [hm] at this) e
  refine List.ext_getElem (by omega) fun i h1 h2 => ?_
  have h3 := congrFun hf i
  rw [pf_el l h1, pf_el m h2, ph_eq hk] at h3
  have h4 := hlr _ (List.getElem_mem h1)
  have h5 := hmr _ (List.getElem_mem h2)
  rwa [Int.emod_eq_of_lt h4.1 h4.2, Int.emod_eq_of_lt h5.1 h5.2] at h3
theorem map_rd_red {p : Int} (hk : known p = true) (a : List Int) : ∀ y ∈ a.map (rd p), 0 ≤ y ∧ y < p := fun y hy => by
  obtain ⟨x, _, rfl⟩ := List.mem_map.1 hy
  rw [rd, if_pos hk]
  have := known_lo hk
  exact ⟨Int.emod_nonneg _ (by omega), Int.emod_lt_of_pos _ (by omega)⟩
/-- Back from the values. -/
theorem intL_evL {p s : Int} {a : List Int} (h : errD p s a.length = 0) : intL p s (evL p a s a.length) = a.map (rd p) := by
  have hk := (errD_zero.1 h).1.1.1
  have hlen := evL_len p a s a.length
  refine same_values h (by rw [intL_len, hlen]) (by simp) (intL_red hk) (map_rd_red hk a) fun k hka => ?_
  have h1 := intL_ev (p := p) (s := s) (v := evL p a s a.length) (by rw [hlen]; exact h) (k := k) (by rw [hlen]; exact hka)
  simp only [hlen] at h1
  rw [h1, pf_red hk]
  simp only [evL, List.getElem_map, List.getElem_range, ph_ival hk]
/-- And there again. -/
theorem evL_intL {p s : Int} {a : List Int} (h : errD p s a.length = 0) : evL p (intL p s a) s a.length = a.map (rd p) := by
  have hk := (errD_zero.1 h).1.1.1
  refine List.ext_getElem (by rw [evL_len]; simp) fun i h1 h2 => ?_
  rw [evL_len] at h1
  simp only [evL, List.getElem_map, List.getElem_range, intL_len]
  rw [intL_ev h h1, ← ival_ph hk, rd, if_pos hk]
end Go.Proofs.Ytdcdaclkeocfpaa

namespace Go.Proofs.Ytdcdaclkeocfpaa
open Go.RowKit
open Classical
namespace Po
variable {q : Nat} [NeZero q]

/-- A point that is shifted: the coefficients are scaled. -/
theorem ev_shift (f : Nat → Fin q) (s x : Fin q) (n : Nat) : ev f (s * x) n = ev (fun i => f i * pwF s i) x n := by
  rw [ev_sm, ev_sm]
  exact sm_congr fun i _ => by rw [pwF_mulx]; grind
theorem ev_dom (f : Nat → Fin q) (s w : Fin q) (n k : Nat) : ev f (dom s w k) n = vl (fun i => f i * pwF s i) w n 0 1 k := by
  rw [vl_ev, ← ev_shift]; rfl
/-- The powers of the inverse root. -/
theorem pw_inv {w u : Fin q} {n : Nat} (hw : Prim w n) (hu : w * u = 1) {i : Nat} (hi : i < n) : pwF u i = pwF w ((n - i) % n) := by
  have h1 : pwF w i * pwF u i = 1 := by rw [← pwF_mulx, hu, pwF_one]
  have h2 : pwF w i * pwF w ((n - i) % n) = 1 := by
    rw [← pwF_add]
    cases i with
    | zero => simp; rfl
    | succ i =>
      rw [Nat.mod_eq_of_lt (by omega), show i + 1 + (n - (i + 1)) = n by omega]
      exact hw.1
  have h3 : ∀ x y z : Fin q, x * y = 1 → x * z = 1 → y = z := fun x y z a b => by
    have e1 : y = y * (x * z) := by rw [b]; grind
    have e2 : y * (x * z) = (x * y) * z := by grind
    rw [e1, e2, a]; grind
  exact h3 _ _ _ h1 h2
theorem ev_inv {w u : Fin q} {n : Nat} (hw : Prim w n) (hu : w * u = 1) (f : Nat → Fin q) {i : Nat} (hi : i < n) : ev f (pwF w ((n - i) % n)) n = vl f u n 0 1 i := by
  rw [vl_ev, pw_inv hw hu hi]
theorem sm_fold (g : Nat → Fin q) (n : Nat) : ∀ J, sm g (J * n) = sm (fun i => sm (fun j => g (j * n + i)) J) n
  | 0 => by
    rw [Nat.zero_mul]
    exact (sm_zero n).symm
  | J + 1 => by
    rw [Nat.add_mul, Nat.one_mul, sm_halves, sm_fold g n J, ← sm_add]
    rfl
/-- The folded coefficients have the same values where x^n = c. -/
theorem ev_fold (f : Nat → Fin q) {x c : Fin q} {n : Nat} (hx : pwF x n = c) (J : Nat) : ev f x (J * n) = ev (fun i => sm (fun j => f (j * n + i) * pwF c j) J) x n := by
  rw [ev_sm, ev_sm, sm_fold]
  refine sm_congr fun i _ => ?_
  have h : sm (fun j => f (j * n + i) * pwF c j) J * pwF x i = pwF x i * sm (fun j => f (j * n + i) * pwF c j) J := by grind
  rw [h, ← sm_mul]
  refine sm_congr fun j _ => ?_
  rw [pwF_add, Nat.mul_comm j n, pwF_pow, hx]
  grind
theorem dom_pow {s w : Fin q} {n : Nat} (hw : Prim w n) (k : Nat) : pwF (dom s w k) n = pwF s n := by
  rw [dom, pwF_mulx, hw.pow]; grind
end Po

theorem pf_pad {p : Int} (l : List Int) (n : Nat) : pf p (l ++ List.replicate n 0) = pf p l := funext fun i => by
  show ph p _ = ph p _
  congr 1
  rcases Nat.lt_or_ge i l.length with h | h
  · rw [getD_lt _ (by simp; omega), getD_lt _ h, List.getElem_append_left h]
  · rw [getD_ge _ h]
    rcases Nat.lt_or_ge i (l.length + n) with h2 | h2
    · rw [getD_lt _ (by simp; omega), List.getElem_append_right h]; simp
    · rw [getD_ge _ (by simp; omega)]
/-- The value of a longer list of zeros is the same. -/
theorem ev_pad {p : Int} (hk : known p = true) (l : List Int) (n : Nat) (x : Fin (Q p)) : Po.ev (pf p (l ++ List.replicate n 0)) x (l ++ List.replicate n 0).length = Po.ev (pf p l) x l.length := by
  rw [pf_pad]
  exact Po.ev_any (pf_deg hk l) (by simp) x

/-- Doubled until it is enough. -/
theorem fits_done {n j : Nat} (h1 : n ≤ 2 ^ j) (h2 : j = 0 ∨ 2 ^ (j - 1) < n) : 2 ^ j = fitsN n := by
  unfold fitsN
  cases j with
  | zero => rw [if_pos (by simpa using h1)]
  | succ j =>
    have h3 : 2 ^ j < n := by simpa using h2
    have hp : 0 < 2 ^ j := Nat.two_pow_pos j
    rw [if_neg (by omega)]
    congr 2
    exact ((Nat.log2_eq_iff (by omega)).2 ⟨by omega, by omega⟩).symm
theorem fits_pow (n : Nat) : ∃ j, fitsN n = 2 ^ j := by
  unfold fitsN
  split
  · exact ⟨0, rfl⟩
  · exact ⟨_, rfl⟩
theorem fits_le (n : Nat) : n ≤ fitsN n := by
  unfold fitsN
  split
  · omega
  · have := @Nat.lt_log2_self (n - 1)
    omega
theorem mulL_len (p : Int) (a b : List Int) : (mulL p a b).length = a.length + b.length - 1 := by simp [mulL]
theorem resM_len (p : Int) (a b : List Int) : (resM p a b).length ≤ a.length + b.length := by
  unfold resM; split
  · rw [mulL_len]; omega
  · simp
/-- The value of a product. -/
theorem mulL_ev {p : Int} (hk : known p = true) {a b : List Int} (ha : a.length ≠ 0) (hb : b.length ≠ 0) (x : Fin (Q p)) :
    Po.ev (pf p (mulL p a b)) x (mulL p a b).length = Po.ev (pf p a) x a.length * Po.ev (pf p b) x b.length := by
  obtain ⟨m, hm⟩ : ∃ m, a.length = m + 1 := ⟨a.length - 1, by omega⟩
  obtain ⟨n, hn⟩ : ∃ n, b.length = n + 1 := ⟨b.length - 1, by omega⟩
  have da := pf_deg hk a
  have db := pf_deg hk b
  rw [mulL_len, ← Po.ev_cv da db]
  have hd : Po.Deg (Po.cv (pf p a) (pf p b)) (a.length + b.length - 1) := by
    rw [hm] at da
    rw [hn] at db
    rw [show a.length + b.length - 1 = m + n + 1 by omega]
    exact (Po.deg_cv da db).2
  rw [Po.ev_any hd (m := a.length + b.length) (by omega)]
  refine ev_first x fun i hi => ?_
  rw [pf_el _ (by rw [mulL_len]; exact hi)]
  simp only [mulL, List.getElem_map, List.getElem_range, ph_ival hk]
theorem resM_ev {p : Int} {a b : List Int} (hM : errM p a b = 0) (x : Fin (Q p)) :
    Po.ev (pf p (resM p a b)) x (resM p a b).length = Po.ev (pf p a) x a.length * Po.ev (pf p b) x b.length := by
  have hk : known p = true := by
    unfold errM at hM
    split at hM
    · assumption
    · omega
  by_cases ha : a.length = 0
  · have e : resM p a b = [] := by rw [resM, if_neg (fun h => h.2.1 ha)]
    rw [e, ha]
    show (0 : Fin (Q p)) = 0 * _
    grind
  · by_cases hb : b.length = 0
    · have e : resM p a b = [] := by rw [resM, if_neg (fun h => h.2.2 hb)]
      rw [e, hb]
      show (0 : Fin (Q p)) = _ * 0
      grind
    · have e : resM p a b = mulL p a b := by rw [resM, if_pos ⟨hM, ha, hb⟩]
      rw [e]
      exact mulL_ev hk ha hb x
/-- The product out of the products of the values. -/
theorem mul_by_values {p s : Int} {n : Nat} {a b v : List Int} (h : errD p s n = 0) (ha : a.length ≠ 0) (hb : b.length ≠ 0) (hn : a.length + b.length - 1 ≤ n) (hv : v.length = n)
    (hvv : ∀ k (g : k < v.length), v[k] = ival p (Po.ev (pf p a) (dpt p s n k) a.length * Po.ev (pf p b) (dpt p s n k) b.length)) :
    intL p s v = mulL p a b ++ List.replicate (n - (a.length + b.length - 1)) 0 := by
  have hk := (errD_zero.1 h).1.1.1
  have hpl := known_lo hk
  have hlen : (mulL p a b ++ List.replicate (n - (a.length + b.length - 1)) 0).length = n := by rw [List.length_append, mulL_len, List.length_replicate]; omega
  refine same_values h (by rw [intL_len, hv]) hlen (intL_red hk) (fun y hy => ?_) fun k hkn => ?_
  · rcases List.mem_append.1 hy with h1 | h1
    · simp only [mulL, List.mem_map] at h1
      obtain ⟨i, _, rfl⟩ := h1
      exact ival_range hk _
    · obtain rfl := List.eq_of_mem_replicate h1
      omega
  · have h1 := intL_ev (p := p) (s := s) (v := v) (by rw [hv]; exact h) (k := k) (by omega)
    have h2 := ev_pad hk (mulL p a b) (n - (a.length + b.length - 1)) (dpt p s n k)
    rw [hlen, mulL_ev hk ha hb] at h2
    rw [h2]
    simp only [hv] at h1
    rw [h1, hvv k (by omega), ph_ival hk]
end Go.Proofs.Ytdcdaclkeocfpaa

namespace Go.Proofs.Ytdcdaclkeocfpaa
open Go.RowKit Go.BigFrame
open Classical

noncomputable def rootN (p s n : Int) : Int := if errD p s n = 0 then rtw p n else 0

set_option maxHeartbeats 2000000 in
theorem rootOf_u (p s n : Int) [hs : U s] (hn0 : -9223372036854775808 ≤ n) (hn1 : n ≤ 9223372036854775807) (w : World) :
    Calls Try.prog 85 #[.agg #[.int .u64 p], .int .u64 s, .int .i64 n] w fun e w' => e = .returned (.tuple #[.int .u64 (rootN p s n), .int .i64 (errD p s n)]) ∧ Nw w.heap.size w w' := by
  by_cases hk : known p = true
  · by_cases hr : RootOk p n
    · by_cases hn : n ≤ 4096
      · have hrd : rd p s = s % p := by rw [rd, if_pos hk]
        have HK := Lib.hid (And.intro hk (And.intro hr hrd))
        by_cases hz : s % p = 0
        · have he : errD p s n = 1 := by rw [errD, if_pos hk, if_neg (fun h => h.2 hz)]
          have hN : rootN p s n = 0 := by rw [rootN, if_neg (by rw [he]; decide)]
          rw [he, hN]
          have HZ := Lib.hid hz
          clear he hN hz hrd hk hr
          go_enter Try.func85, Try.ntmps85
          go_wp2_with (first
            | (go_at_call 75; refine (valid_any _ _).mono ?_; rintro e w1 ⟨rfl, hb1⟩; rw [HK.out.1]; have hc1 : w1.cell? ⟨w.heap.size, 0, none⟩ = some (.int .u64 p) := hb1.hold (by go_simp))
            | (go_at_call 112; refine (fRoot_yes _ _ HK.out.2.1 hn1 _).mono ?_; rintro e w2 ⟨rfl, hb2⟩; have hc2 := hb2.hold hc1)
            | (go_at_call 56; refine (fReduce_u _ _ _).mono ?_; rintro e w3 ⟨rfl, hb3⟩; rw [HK.out.2.2, HZ.out]))
          refine bodyPost_ret (results_tmp2 rfl _ _ _) rfl ?_
          exact ⟨rfl, by (repeat (first | exact Nw.refl _ _ | assumption | refine Nw.drew ?_ | refine Nw.drewN ?_ _ | refine Nw.set ?_ (by first | omega | (simp; done) | (simp; omega)) _ | refine Nw.made (Nat.le_refl _) ?_ _ _ | refine Nw.next (Nat.le_refl _) ?_ (by assumption)))⟩
        · have he : errD p s n = 0 := errD_ok ⟨hr, hn⟩ hz
          have hN : rootN p s n = rtw p n := by rw [rootN, if_pos he]
          rw [he, hN]
          have hzb : (s % p == 0) = false := by simpa using hz
          clear he hN hrd hk hr
          go_enter Try.func85, Try.ntmps85
          go_wp2_with (first
            | (go_at_call 75; refine (valid_any _ _).mono ?_; rintro e w1 ⟨rfl, hb1⟩; rw [HK.out.1]; have hc1 : w1.cell? ⟨w.heap.size, 0, none⟩ = some (.int .u64 p) := hb1.hold (by go_simp))
            | (go_at_call 112; refine (fRoot_yes _ _ HK.out.2.1 hn1 _).mono ?_; rintro e w2 ⟨rfl, hb2⟩; have hc2 := hb2.hold hc1)
            | (go_at_call 56; refine (fReduce_u _ _ _).mono ?_; rintro e w3 ⟨rfl, hb3⟩; rw [HK.out.2.2]))
          refine bodyPost_ret (results_tmp2 rfl _ _ _) rfl ?_
          exact ⟨rfl, by (repeat (first | exact Nw.refl _ _ | assumption | refine Nw.drew ?_ | refine Nw.drewN ?_ _ | refine Nw.set ?_ (by first | omega | (simp; done) | (simp; omega)) _ | refine Nw.made (Nat.le_refl _) ?_ _ _ | refine Nw.next (Nat.le_refl _) ?_ (by assumption)))⟩
      · have he : errD p s n = 1 := by rw [errD, if_pos hk, if_neg (fun h => hn h.1.2)]
        have hN : rootN p s n = 0 := by rw [rootN, if_neg (by rw [he]; decide)]
        rw [he, hN]
        have HK := Lib.hid (And.intro hk hr)
        clear he hN hk hr
        go_enter Try.func85, Try.ntmps85
        go_wp2_with (first
          | (go_at_call 75; refine (valid_any _ _).mono ?_; rintro e w1 ⟨rfl, hb1⟩; rw [HK.out.1]; have hc1 : w1.cell? ⟨w.heap.size, 0, none⟩ = some (.int .u64 p) := hb1.hold (by go_simp))
          | (go_at_call 112; refine (fRoot_yes _ _ HK.out.2 hn1 _).mono ?_; rintro e w2 ⟨rfl, hb2⟩; have hc2 := hb2.hold hc1))
        refine bodyPost_ret (results_tmp2 rfl _ _ _) rfl ?_
        exact ⟨rfl, by (repeat (first | exact Nw.refl _ _ | assumption | refine Nw.drew ?_ | refine Nw.drewN ?_ _ | refine Nw.set ?_ (by first | omega | (simp; done) | (simp; omega)) _ | refine Nw.made (Nat.le_refl _) ?_ _ _ | refine Nw.next (Nat.le_refl _) ?_ (by assumption)))⟩
    · have he : errD p s n = 1 := by rw [errD, if_pos hk, if_neg (fun h => hr h.1.1)]
      have hN : rootN p s n = 0 := by rw [rootN, if_neg (by rw [he]; decide)]
      rw [he, hN]
      have HK := Lib.hid (And.intro hk hr)
      clear he hN hk hr
      go_enter Try.func85, Try.ntmps85
      go_wp2_with (first
        | (go_at_call 75; refine (valid_any _ _).mono ?_; rintro e w1 ⟨rfl, hb1⟩; rw [HK.out.1]; have hc1 : w1.cell? ⟨w.heap.size, 0, none⟩ = some (.int .u64 p) := hb1.hold (by go_simp))
        | (go_at_call 112; refine (fRoot_no _ _ HK.out.2 hn0 hn1 _).mono ?_; rintro e w2 ⟨rfl, hb2⟩; have hc2 := hb2.hold hc1))
      refine bodyPost_ret (results_tmp2 rfl _ _ _) rfl ?_
      exact ⟨rfl, by (repeat (first | exact Nw.refl _ _ | assumption | refine Nw.drew ?_ | refine Nw.drewN ?_ _ | refine Nw.set ?_ (by first | omega | (simp; done) | (simp; omega)) _ | refine Nw.made (Nat.le_refl _) ?_ _ _ | refine Nw.next (Nat.le_refl _) ?_ (by assumption)))⟩
  · have he : errD p s n = 7 := by rw [errD, if_neg hk]
    have hN : rootN p s n = 0 := by rw [rootN, if_neg (by rw [he]; decide)]
    rw [he, hN]
    have HK := Lib.hid (show known p = false by simpa using hk)
    clear he hN hk
    go_enter Try.func85, Try.ntmps85
    go_wp2_with (go_at_call 75; refine (valid_any _ _).mono ?_; rintro e w1 ⟨rfl, hb1⟩; rw [HK.out]; have hc1 : w1.cell? ⟨w.heap.size, 0, none⟩ = some (.int .u64 p) := hb1.hold (by go_simp))
    refine bodyPost_ret (results_tmp2 rfl _ _ _) rfl ?_
    exact ⟨rfl, by (repeat (first | exact Nw.refl _ _ | assumption | refine Nw.drew ?_ | refine Nw.drewN ?_ _ | refine Nw.set ?_ (by first | omega | (simp; done) | (simp; omega)) _ | refine Nw.made (Nat.le_refl _) ?_ _ _ | refine Nw.next (Nat.le_refl _) ?_ (by assumption)))⟩

theorem bitLen_log : ∀ x : Nat, x < 2 ^ 64 → Lib.bitLen x = if x = 0 then 0 else x.log2 + 1 := fun x => by
  induction x using Nat.strongRecOn with
  | _ x ih =>
    intro hx
    by_cases h : x = 0
    · subst h; rfl
    · rw [if_neg h, Lib.bitLen_half x h hx, ih (x / 2) (by omega) (by omega)]
      by_cases h2 : x / 2 = 0
      · obtain rfl : x = 1 := by omega
        rfl
      · rw [if_neg h2, Nat.log2_def x, if_pos (by omega)]
        omega
theorem bitLen_16 {x : Nat} (h : x ≤ 65535) : Lib.bitLen x ≤ 16 := Lib.bitLen_le x 16 (by omega) (by omega)
theorem fits_len {n : Nat} (h0 : 1 ≤ n) (h1 : n ≤ 65536) : 2 ^ Lib.bitLen (n - 1) = fitsN n := by
  rw [bitLen_log _ (by omega)]
  unfold fitsN
  by_cases h : n ≤ 1
  · obtain rfl : n = 1 := by omega
    rfl
  · rw [if_neg h, if_neg (by omega)]

set_option maxHeartbeats 2000000 in
theorem power_u (n : Nat) (h0 : 1 ≤ n) (h1 : n ≤ 65536) (w : World) :
    Calls Try.prog 95 #[.int .i64 n] w fun e w' => e = .returned (.int .i64 (fitsN n : Nat)) ∧ Nw w.heap.size w w' := by
  have hb := bitLen_16 (x := n - 1) (by omega)
  have hp : (2 : Nat) ^ Lib.bitLen (n - 1) ≤ 2 ^ 16 := Nat.pow_le_pow_right (by decide) hb
  have hf : wrap64 (2 ^ min (Lib.bitLen (n - 1)) 64) = (fitsN n : Nat) := by
    rw [← fits_len h0 h1, Nat.min_eq_left (by omega)]
    have e : (2 : Int) ^ Lib.bitLen (n - 1) = ((2 ^ Lib.bitLen (n - 1) : Nat) : Int) := by simp
    rw [e]
    obtain ⟨m, hm⟩ : ∃ m, m = 2 ^ Lib.bitLen (n - 1) := ⟨_, rfl⟩
    rw [← hm] at hp ⊢
    unfold wrap64
    omega
  have HF := Lib.hid hf
  clear hf hp hb
  go_enter Try.func95, Try.ntmps95
  go_wp2_with (go_at_call 118; refine (len64_small ((n : Int) - 1) _ (by omega) (by omega)).mono ?_; rintro e w1 ⟨rfl, rfl⟩)
  go_ret
  rw [HF.out]
  exact ⟨rfl, Nw.refl _ _⟩

set_option maxHeartbeats 4000000 in
theorem tDomain_w (p s n : Int) [hs : U s] (hn0 : -9223372036854775808 ≤ n) (hn1 : n ≤ 9223372036854775807) (w : World) :
    Calls Try.prog 46 #[.agg #[.int .u64 p], .int .u64 s, .int .i64 n] w (Pair w (resD p s n) (errD p s n)) := by
  by_cases he : errD p s n = 0
  · have hr : resD p s n = domL p s n := by rw [resD, if_pos he]
    have hN : rootN p s n = rtw p n := by rw [rootN, if_pos he]
    obtain ⟨hl, hz⟩ := errD_zero.1 he
    have hk := hl.1.1
    have hn := hl.1.2.1
    have hn2 := hl.2
    obtain ⟨N, hNn⟩ : ∃ N : Nat, n = (N : Int) := ⟨n.toNat, by omega⟩
    subst hNn
    have hL : (domL p s N).length = N := by rw [domL_len]; simp
    have h0 : rd p s = ival p (dpt p s N 0) := by rw [dpt_zero, rd, if_pos hk, ival_ph hk]
    have hend : updK (fun i => ival p (dpt p s N i)) (List.replicate N 0) 0 N = domL p s N := by
      refine List.ext_getElem (by rw [updK_len, hL]; simp) fun i h1 h2 => ?_
      rw [updK_len] at h1
      simp at h1
      simp only [updK, domL, List.getElem_map, List.getElem_range]
      rw [if_pos (by omega)]
    rw [he, hr]
    have HK := Lib.hid (And.intro hk (And.intro he (And.intro hN (And.intro h0 hend))))
    clear he hr hN hk hl h0 hend hz hL
    go_enter Try.func46, Try.ntmps46
    go_upto_region 4 with (go_at_call 85; refine (rootOf_u p s N hn0 hn1 _).mono ?_; rintro e w1 ⟨rfl, hb1⟩; rw [HK.out.2.1, HK.out.2.2.1]; have hc1 : w1.cell? ⟨w.heap.size, 0, none⟩ = some (.int .u64 p) := hb1.hold (by go_simp))
    have hB1 : Below w.heap.size w w1 := Below.next (Nat.le_refl _) (Below.made (Nat.le_refl _) (Below.refl _ _) _) hb1.b
    have HB := Lib.hid hB1
    clear hb1 hB1
    go_upto_region 5 with (at_make; refine make_zeros rfl (.tmp 23) (.tmp 23) rfl w1.heap.size N rfl rfl (by omega) (Nat.le_refl _) ?_; intro v3 w3 hown3 hv3 hb3; subst hv3; have hc3 := Below.hold hb3 hc1)
    obtain ⟨g, hg⟩ : ∃ g, g = w1.heap.size := ⟨_, rfl⟩
    have hgw : w.heap.size < g := by rw [hg]; exact World.block_lt_of_cell? _ _ hc1
    rw [← hg] at hown3 ⊢
    have HO := Lib.hid (And.intro hown3 (And.intro hb3 hg))
    clear hown3 hb3 hg hc1
    go_wp2_with (go_at_call 56; refine (fReduce_u p s _).mono ?_; rintro e w4 ⟨rfl, hb4⟩; rw [HK.out.2.2.2.1]; have hc4 := hb4.hold hc3)
    have HO4 := Lib.hid (And.intro (HO.out.1.hold hb4.b) (Below.next (Nat.le_refl _) HB.out (Below.next (Nat.le_refl _) HO.out.2.1 hb4.b)))
    clear hb4 hc3
    go_loopw [11, 30] (fun pv iv wr => ∃ k : Nat, pv = .int .u64 (ival p (dpt p s N k)) ∧ iv = .int .i64 k ∧ k ≤ N ∧ wr.cell? ⟨w.heap.size, 0, none⟩ = some (.int .u64 p) ∧ Own wr g (.slice (some ⟨g, 0, none⟩) N N) (updK (fun i => ival p (dpt p s N i)) (List.replicate N 0) 0 k) ∧ Below w.heap.size w wr) (fun _ iv _ => N - (intOf iv).toNat)
    case atStart => exact ⟨0, rfl, rfl, Nat.zero_le _, hc4, by rw [updK_zero]; exact HO4.out.1, HO4.out.2⟩
    case round =>
      obtain ⟨k, rfl, rfl, hk, hp, hown, hb⟩ := hrel
      have i0 : (0 : Int) ≤ (k : Int) := by omega
      clear hc4
      by_cases hlt : k < N
      · have hkl : k < (List.replicate N (0 : Int)).length := by simp; exact hlt
        have hc : wr.cell? ⟨g, k, none⟩ = some (.int .u64 0) := by rw [hown.cell (i := k) (by rw [updK_len]; exact hkl), updK_at0 hkl]; simp
        have hf := hown.thawed k
        have hset := updK_set0 (f := fun i => ival p (dpt p s N i)) (L := List.replicate N 0) (k := k)
        have hnext := dpt_succ HK.out.1 s N k
        obtain ⟨y, hy⟩ : ∃ y, y = ival p (dpt p s N k) := ⟨_, rfl⟩
        have hyU : U y := by rw [hy]; infer_instance
        rw [← hy] at hset hnext ⊢
        have hps : (wr.setCell ⟨g, k, none⟩ (.int .u64 y)).cell? ⟨w.heap.size, 0, none⟩ = some (.int .u64 p) := (World.cell?_setCell_other _ _ _ _ (by intro e; have := congrArg Addr.block e; simp at this; omega)).trans hp
        have hs := hown.set k y
        have hbs := Below.wrote hb (Nat.le_of_lt hgw) hb.size hown hs.2
        have i1 : (k : Int) < (N : Int) := by omega
        have HV := Lib.hid (And.intro hs.1 (And.intro hbs (And.intro hset hnext)))
        clear hs hbs hset hnext hown hb hy hkl
        go_wp2_with (go_at_call 38; refine (fMul_u p y (rtw p N) _).mono ?_; rintro e w5 ⟨rfl, hb5⟩; have hp5 := hb5.hold hps)
        exact ⟨⟨k + 1, by rw [HV.out.2.2.2], by go_num, by omega, hp5, by rw [← HV.out.2.2.1]; exact HV.out.1.hold hb5.b, Below.next (Nat.le_refl _) HV.out.2.1 hb5.b⟩, by simp [intOf]; omega⟩
      · obtain rfl : k = N := by omega
        rw [HK.out.2.2.2.2] at hown
        have HV := Lib.hid (And.intro hown hb)
        clear hown hb
        go_wp2
        refine bodyPost_ret (results_tmp2 rfl _ _ _) rfl ?_
        exact ⟨_, rfl, HV.out.1.low (Nat.le_of_lt hgw), HV.out.2⟩
  · have hN : rootN p s n = 0 := by rw [rootN, if_neg he]
    have hr : resD p s n = [] := by rw [resD, if_neg he]
    obtain ⟨er, her⟩ : ∃ er, er = errD p s n := ⟨_, rfl⟩
    rw [← her] at he
    have hne : (er != 0) = true := by simpa using he
    rw [hr, ← her]
    have HK := Lib.hid (And.intro hN her)
    clear hN her hr
    go_enter Try.func46, Try.ntmps46
    go_wp2_with (go_at_call 85; refine (rootOf_u p s n hn0 hn1 _).mono ?_; rintro e w1 ⟨rfl, hb1⟩; rw [← HK.out.2, HK.out.1])
    refine bodyPost_ret (results_tmp2 rfl _ _ _) rfl ?_
    exact ⟨_, rfl, Own.nil _ _, Below.next (Nat.le_refl _) (Below.made (Nat.le_refl _) (Below.refl _ _) _) hb1.b⟩
end Go.Proofs.Ytdcdaclkeocfpaa

namespace Go.Proofs.Ytdcdaclkeocfpaa
open Go.RowKit Go.BigFrame
open Classical

/-- The elements in the order of their turned indices, of the first k rounds. -/
def turnK (b : Nat) (l : List Int) (k : Nat) : List Int := (List.range l.length).map fun j => if rev b j < k then l.getD (rev b j) 0 else 0
def turnL (b : Nat) (l : List Int) : List Int := (List.range l.length).map fun j => l.getD (rev b j) 0
theorem turnK_len (b : Nat) (l : List Int) (k : Nat) : (turnK b l k).length = l.length := by simp [turnK]
theorem turnL_len (b : Nat) (l : List Int) : (turnL b l).length = l.length := by simp [turnL]
theorem turnK_zero (b : Nat) (l : List Int) : turnK b l 0 = List.replicate l.length 0 := by
  refine List.ext_getElem (by simp [turnK]) fun i h1 h2 => ?_
  simp [turnK]
theorem turnK_set {b : Nat} {l : List Int} (hl : l.length = 2 ^ b) {k : Nat} (hk : k < l.length) : (turnK b l k).set (rev b k) l[k] = turnK b l (k + 1) := by
  refine List.ext_getElem (by simp [turnK_len]) fun i h1 h2 => ?_
  rw [turnK_len] at h2
  rw [List.getElem_set]
  simp only [turnK, List.getElem_map, List.getElem_range]
  by_cases hi : rev b k = i
  · subst hi
    rw [if_pos rfl, rev_rev b (by omega), if_pos (by omega), getD_lt _ hk]
  · rw [if_neg hi]
    have hne : rev b i ≠ k := fun e => hi (by rw [← e, rev_rev b (by omega)])
    by_cases h3 : rev b i < k
    · rw [if_pos h3, if_pos (by omega)]
    · rw [if_neg h3, if_neg (by omega)]
theorem turnK_end {b : Nat} {l : List Int} (hl : l.length = 2 ^ b) : turnK b l l.length = turnL b l := by
  refine List.ext_getElem (by simp [turnK, turnL]) fun i h1 h2 => ?_
  simp only [turnK, turnL, List.getElem_map, List.getElem_range]
  rw [if_pos (by have := rev_lt b i; omega)]
theorem bitLen_two (b : Nat) (hb : b ≤ 12) : Lib.bitLen (2 ^ b - 1) = b := by
  have hp : (2 : Nat) ^ b ≤ 2 ^ 12 := Nat.pow_le_pow_right (by decide) hb
  have hq : 0 < 2 ^ b := Nat.two_pow_pos b
  rw [bitLen_log _ (by omega)]
  cases b with
  | zero => rfl
  | succ b =>
    have hq : 0 < 2 ^ b := Nat.two_pow_pos b
    have h1 : 2 ^ (b + 1) = 2 * 2 ^ b := by rw [Nat.pow_succ]; omega
    rw [if_neg (by omega)]
    congr 1
    exact (Nat.log2_eq_iff (by omega)).2 ⟨by omega, by omega⟩

set_option maxHeartbeats 4000000 in
theorem reversed_u (v : Value) (l : List Int) (b : Nat) (w : World) (hl : Lst w v l) (hlb : l.length = 2 ^ b) (hb : b ≤ 12) :
    Calls Try.prog 113 #[v] w fun e w' => ∃ g, e = .returned (.slice (some ⟨g, 0, none⟩) l.length l.length) ∧ Own w' w.heap.size (.slice (some ⟨g, 0, none⟩) l.length l.length) (turnL b l) ∧ Below w.heap.size w w' := by
  obtain ⟨a0, c0, rfl⟩ := hl.shape
  have HL := Lib.hid hl
  have hp : (2 : Nat) ^ b ≤ 2 ^ 12 := Nat.pow_le_pow_right (by decide) hb
  have hq : 0 < 2 ^ b := Nat.two_pow_pos b
  have hn1 : (1 : Int) ≤ (l.length : Int) := by omega
  have hn2 : (l.length : Int) ≤ 4096 := by omega
  have hbl : Lib.bitLen ((l.length : Int) - 1).toNat = b := by rw [show ((l.length : Int) - 1).toNat = 2 ^ b - 1 by omega, bitLen_two b hb]
  obtain ⟨u, hu⟩ : ∃ u : Nat, u = 64 - b := ⟨_, rfl⟩
  have hu2 : (64 : Int) - (b : Int) = (u : Int) := by omega
  have hu3 : (u : Int) ≤ 64 := by omega
  have hsh : ∀ k, k < l.length → rvF (k : Int) / 2 ^ u = (rev b k : Int) := fun k hk => by
    rw [hu]
    exact rvF_shr hb (by omega)
  have HK := Lib.hid (And.intro hlb (And.intro hbl (And.intro hu2 hsh)))
  clear hl hlb hp hq hbl hu hu2 hsh
  go_enter Try.func113, Try.ntmps113
  go_upto_region 2 with (at_make; refine make_zeros rfl (.tmp 8) (.tmp 8) rfl w.heap.size l.length rfl rfl (by omega) (Nat.le_refl _) ?_; intro v3 w3 hown3 hv3 hb3; subst hv3)
  obtain ⟨g, hg⟩ : ∃ g, g = w.heap.size := ⟨_, rfl⟩
  rw [← hg] at hown3 ⊢
  have HO := Lib.hid (And.intro hown3 (And.intro hb3 hg))
  clear hown3 hb3 hg
  go_upto_region 3 with (go_at_call 118; refine (len64_small _ _ (by omega) (by omega)).mono ?_; rintro e w1 ⟨rfl, rfl⟩; rw [HK.out.2.1])
  rw [HK.out.2.2.1]
  go_wp2
  go_loopw [18] (fun iv wr => ∃ k : Nat, iv = .int .i64 k ∧ k ≤ l.length ∧ Own wr g (.slice (some ⟨g, 0, none⟩) l.length l.length) (turnK b l k) ∧ Below w.heap.size w wr) (fun iv _ => l.length - (intOf iv).toNat)
  case atStart => exact ⟨0, rfl, Nat.zero_le _, by rw [turnK_zero]; exact HO.out.1, HO.out.2.1⟩
  case round =>
    obtain ⟨k, rfl, hk, hown, hb⟩ := hrel
    have i0 : (0 : Int) ≤ (k : Int) := by omega
    by_cases hlt : k < l.length
    · obtain ⟨bb, ob, cb, e, hc⟩ := (HL.out.hold hb).cells k hlt
      obtain ⟨rfl, rfl⟩ : a0 = some ⟨bb, ob, none⟩ ∧ c0 = cb := by simp at e; exact e
      clear e
      have hux := HL.out.us l[k] (List.getElem_mem hlt)
      have hset := turnK_set HK.out.1 hlt
      have hj := rev_lt b k
      have hsk := HK.out.2.2.2 k hlt
      obtain ⟨j, hjr⟩ : ∃ j, j = rev b k := ⟨_, rfl⟩
      rw [← hjr] at hset hj hsk
      have hz := hown.thawed j
      have hjl : j < l.length := by rw [HK.out.1]; exact hj
      obtain ⟨x, hx⟩ : ∃ x, x = l[k] := ⟨_, rfl⟩
      rw [← hx] at hc hux hset
      have i1 : (k : Int) < (l.length : Int) := by omega
      have i2 : (0 : Int) ≤ (j : Int) := by omega
      have i3 : (j : Int) < (l.length : Int) := by omega
      have hsk2 : Int.toNat (rvF (k : Int) / 2 ^ u) = j := by rw [hsk]; simp
      have hs := hown.set j x
      have hcj := hown.cell (i := j) (by rw [turnK_len]; exact hjl)
      have HV := Lib.hid (And.intro hs.1 (And.intro (Below.wrote hb (Nat.le_of_eq HO.out.2.2.symm) hb.size hown hs.2) hset))
      have HJ := Lib.hid (And.intro hjr hsk)
      clear hs hown hb hset hx hjr hj hlt
      go_wp2_with (go_at_call 123; refine (reverse_u _ _).mono ?_; rintro e w1 ⟨rfl, rfl⟩)
      exact ⟨⟨k + 1, by go_num, by omega, by rw [← HV.out.2.2]; exact HV.out.1, HV.out.2.1⟩, by simp [intOf]; omega⟩
    · obtain rfl : k = l.length := by omega
      rw [turnK_end HK.out.1] at hown
      have HV := Lib.hid (And.intro hown hb)
      clear hown hb
      go_wp2
      go_ret
      exact ⟨_, rfl, HV.out.1.low (Nat.le_of_eq HO.out.2.2.symm), HV.out.2⟩
end Go.Proofs.Ytdcdaclkeocfpaa

namespace Go.Proofs.Ytdcdaclkeocfpaa
open Go.RowKit Go.BigFrame
open Classical

/-- What join leaves at a place, after k rounds. -/
def joinF (p : Int) (L P : List Int) (o h t k : Nat) (i : Nat) : Int :=
  if o ≤ i ∧ i < o + k then ad p (L.getD i 0) (ml p (L.getD (i + h) 0) (P.getD ((i - o) * t) 0))
  else if o + h ≤ i ∧ i < o + h + k then sb p (L.getD (i - h) 0) (ml p (L.getD i 0) (P.getD ((i - o - h) * t) 0))
  else L.getD i 0
def joinK (p : Int) (L P : List Int) (o h t k : Nat) : List Int := (List.range L.length).map (joinF p L P o h t k)
theorem joinK_len (p : Int) (L P : List Int) (o h t k : Nat) : (joinK p L P o h t k).length = L.length := by simp [joinK]
theorem joinK_at {p : Int} {L P : List Int} {o h t k i : Nat} (hi : i < L.length) : (joinK p L P o h t k)[i]'(by rw [joinK_len]; exact hi) = joinF p L P o h t k i := by
  simp [joinK]
theorem joinK_zero (p : Int) (L P : List Int) (o h t : Nat) : joinK p L P o h t 0 = L := by
  refine List.ext_getElem (joinK_len ..) fun i h1 h2 => ?_
  rw [joinK_at h2, joinF, if_neg (by omega), if_neg (by omega), getD_lt _ h2]
theorem joinK_lo {p : Int} {L P : List Int} {o h t k : Nat} (hk : k < h) (ho : o + 2 * h ≤ L.length) : (joinK p L P o h t k)[o + k]'(by rw [joinK_len]; omega) = L[o + k] := by
  rw [joinK_at (by omega), joinF, if_neg (by omega), if_neg (by omega), getD_lt _ (by omega)]
theorem joinK_hi {p : Int} {L P : List Int} {o h t k : Nat} (hk : k < h) (ho : o + 2 * h ≤ L.length) : (joinK p L P o h t k)[o + (h + k)]'(by rw [joinK_len]; omega) = L[o + (h + k)] := by
  rw [joinK_at (by omega), joinF, if_neg (by omega), if_neg (by omega), getD_lt _ (by omega)]
theorem joinK_set {p : Int} {L P : List Int} {o h t k : Nat} (hk : k < h) (ho : o + 2 * h ≤ L.length) (hP : k * t < P.length) :
    ((joinK p L P o h t k).set (o + k) (ad p L[o + k] (ml p L[o + (h + k)] P[k * t]))).set (o + (h + k)) (sb p L[o + k] (ml p L[o + (h + k)] P[k * t])) = joinK p L P o h t (k + 1) := by
  refine List.ext_getElem (by simp [joinK_len]) fun i h1 h2 => ?_
  rw [joinK_len] at h2
  rw [List.getElem_set, List.getElem_set, joinK_at h2, joinK_at h2]
  unfold joinF
  by_cases h3 : o + (h + k) = i
  · subst h3
    rw [if_pos rfl, if_neg (by omega), if_pos (by omega), show o + (h + k) - h = o + k by omega, show o + (h + k) - o - h = k by omega, getD_lt _ (by omega), getD_lt _ (by omega), getD_lt _ hP]
  · rw [if_neg h3]
    by_cases h4 : o + k = i
    · subst h4
      rw [if_pos rfl, if_pos (by omega), show o + k + h = o + (h + k) by omega, show o + k - o = k by omega, getD_lt _ (by omega), getD_lt _ (by omega), getD_lt _ hP]
    · rw [if_neg h4]
      by_cases h5 : o ≤ i ∧ i < o + k
      · rw [if_pos h5, if_pos (by omega)]
      · rw [if_neg h5, if_neg (by omega : ¬ (o ≤ i ∧ i < o + (k + 1)))]
        by_cases h6 : o + h ≤ i ∧ i < o + h + k
        · rw [if_pos h6, if_pos (by omega)]
        · rw [if_neg h6, if_neg (by omega)]

set_option maxHeartbeats 8000000 in
theorem join_w (p : Int) (base g c cap o h t : Nat) (L P : List Int) (vp : Value) (w : World) (hown : Own w base (.slice (some ⟨g, 0, none⟩) L.length cap) L) (hlp : Lst w vp P) (hoff : 0 < P.length → vp.ownBlock ≠ some g)
    (ho : o + 2 * h ≤ L.length) (hh : 1 ≤ h) (ht : 1 ≤ t) (hP : P.length = h * t) (hL : L.length ≤ 4096) (hPn : P.length ≤ 4096) :
    Calls Try.prog 114 #[.agg #[.int .u64 p], .slice (some ⟨g, o, none⟩) (2 * h) c, vp] w fun e w' =>
      e = .returned (.tuple #[]) ∧ Own w' base (.slice (some ⟨g, 0, none⟩) L.length cap) (joinK p L P o h t h) ∧ w.grownBy w' (some g) := by
  obtain ⟨a0, c0, rfl⟩ := hlp.shape
  have hgw := (hown.row.lt g rfl).2
  have HW := Lib.hid hown
  have HL := Lib.hid hlp
  have HN := Lib.hid (And.intro hoff (And.intro ho (And.intro hP hL)))
  have i1 : (1 : Int) ≤ (h : Int) := by omega
  have i2 : (h : Int) ≤ 2048 := by omega
  have i3 : (1 : Int) ≤ (t : Int) := by omega
  have i4 : (P.length : Int) ≤ 4096 := by omega
  have i5 : (t : Int) ≤ 4096 := by
    have : 1 * t ≤ h * t := Nat.mul_le_mul_right _ hh
    omega
  have i6 : wrap64 (t : Int) = (t : Int) := by unfold wrap64; omega
  have hd : (P.length : Int).tdiv (h : Int) = (t : Int) := by
    rw [hP]
    rw [Int.natCast_mul]
    exact Int.mul_tdiv_cancel_left _ (by omega)
  have hd2 : ((2 * h : Nat) : Int).tdiv 2 = (h : Int) := by
    rw [Int.natCast_mul]; exact Int.mul_tdiv_cancel_left _ (by decide)
  have hd3 : (P.length : Int) / (h : Int) = (t : Int) := by
    rw [hP]
    rw [Int.natCast_mul]
    exact Int.mul_ediv_cancel_left _ (by omega)
  have hz : ¬ (h : Int) = 0 := by omega
  clear hown hlp hoff ho hP
  go_enter Try.func114, Try.ntmps114
  go_wp2
  go_loopw [19] (fun iv wr => ∃ k : Nat, iv = .int .i64 k ∧ k ≤ h ∧ wr.cell? ⟨w.heap.size, 0, none⟩ = some (.int .u64 p) ∧ Own wr base (.slice (some ⟨g, 0, none⟩) L.length cap) (joinK p L P o h t k) ∧ w.grownBy wr (some g)) (fun iv _ => h - (intOf iv).toNat)
  case atStart => exact ⟨0, rfl, Nat.zero_le _, by go_simp, by rw [joinK_zero]; exact HW.out.hold (Below.made (Nat.le_refl _) (Below.refl _ _) _), grown_below (Below.made (Nat.le_refl _) (Below.refl _ _) _)⟩
  case round =>
    obtain ⟨k, rfl, hk, hp, hown, hg⟩ := hrel
    have i0 : (0 : Int) ≤ (k : Int) := by omega
    by_cases hlt : k < h
    · have ho := HN.out.2.1
      have hkt : k * t < P.length := by rw [HN.out.2.2.1]; exact Nat.mul_lt_mul_of_pos_right hlt (by omega)
      have hc1 : wr.cell? ⟨g, o + k, none⟩ = some (.int .u64 L[o + k]) := by
        rw [hown.cell (by rw [joinK_len]; omega), joinK_lo hlt ho]
      have hc2 : wr.cell? ⟨g, o + (h + k), none⟩ = some (.int .u64 L[o + (h + k)]) := by
        rw [hown.cell (by rw [joinK_len]; omega), joinK_hi hlt ho]
      obtain ⟨b, oa, ca, e, hc3⟩ := (HL.out.kept hg HN.out.1).cells (k * t) hkt
      obtain ⟨rfl, rfl⟩ : a0 = some ⟨b, oa, none⟩ ∧ c0 = ca := by simp at e; exact e
      clear e
      have hz1 := hown.thawed (o + k)
      have hz2 := hown.thawed (o + (h + k))
      have hux := HW.out.us L[o + k] (List.getElem_mem (by omega))
      have huy := HW.out.us L[o + (h + k)] (List.getElem_mem (by omega))
      have huz := HL.out.us P[k * t] (List.getElem_mem hkt)
      have hset := joinK_set (p := p) (P := P) (t := t) hlt ho hkt
      obtain ⟨x, hx⟩ : ∃ x, x = L[o + k] := ⟨_, rfl⟩
      obtain ⟨y, hy⟩ : ∃ y, y = L[o + (h + k)] := ⟨_, rfl⟩
      obtain ⟨z, hz0⟩ : ∃ z, z = P[k * t] := ⟨_, rfl⟩
      rw [← hx] at hux hc1 hset
      rw [← hy] at huy hc2 hset
      rw [← hz0] at huz hc3 hset
      have j1 : (k : Int) < (h : Int) := by omega
      have j2 : (k : Int) < ((2 * h : Nat) : Int) := by omega
      have j3 : (0 : Int) ≤ (k : Int) * (t : Int) := by rw [← Int.natCast_mul]; omega
      have j4 : (k : Int) * (t : Int) < (P.length : Int) := by rw [← Int.natCast_mul]; omega
      have j5 : IntKind.i64.wrap ((k : Int) * (t : Int)) = (k : Int) * (t : Int) := by rw [IntKind.wrap_i64]; omega
      have j7 : wrap64 ((k : Int) * (t : Int)) = (k : Int) * (t : Int) := by unfold wrap64; omega
      have j8 : (k : Int) < 2 * (h : Int) := by omega
      have j9 : (h : Int) + (k : Int) < 2 * (h : Int) := by omega
      have j10 : (0 : Int) ≤ (h : Int) + (k : Int) := by omega
      have j11 : IntKind.i64.wrap ((h : Int) + (k : Int)) = (h : Int) + (k : Int) := by rw [IntKind.wrap_i64]; omega
      have j12 : ((h : Int) + (k : Int)).toNat = h + k := by omega
      have j6 : ((k : Int) * (t : Int)).toNat = k * t := by rw [← Int.natCast_mul]; exact Int.toNat_natCast _
      have HO := Lib.hid (And.intro hown (And.intro hg hset))
      clear hown hg hset hx hy hz0 ho hkt
      go_wp2_with fail
      have k0 := fun q : NwAt wr => q.nw.hold hp
      have k1 := fun q : NwAt wr => q.nw.hold hc1
      have k2 := fun q : NwAt wr => q.nw.hold hc2
      have k3 := fun q : NwAt wr => q.nw.hold hc3
      have k4 := fun q : NwAt wr => q.nw.holdf hz1
      have k5 := fun q : NwAt wr => q.nw.holdf hz2
      refine from_here ?_
      intro q
      refine wp_region_nw (by kernel_rfl) (by kernel_rfl) ?_
      repeat (go_big_quiet_step ((first | (go_at_call 38; exact nwAt_of (fMul_u _ _ _ _)))))
      refine wpQuiet_nil ?_
      clear q
      rintro _ ⟨q, rfl⟩
      have hgx : g ≠ w.heap.size := by omega
      have d0 := k0 q
      have d1 := k1 q
      have d2 := k2 q
      have d4 := k4 q
      have d5 := k5 q
      have HQ := Lib.hid q.nw.b
      (try dsimp only at d0 d1 d2 d4 d5)
      clear k0 k1 k2 k3 k4 k5 hc1 hc2 hc3 hz1 hz2
      go_wp2_with fail
      go_region_held3 (fun w' => w'.cell? ⟨w.heap.size, 0, none⟩ = some (.int .u64 p))
        (first | assumption | exact Nw.hold ‹_› ‹_› | (rw [World.cell?_setCell_far _ _ _ _ hgx]; assumption))
        (first
          | (go_at_call 97; refine (fAdd_u _ _ _ _).mono ?_; rintro _ w2 ⟨rfl, hb2⟩; have e1 := hb2.hold d1; have e2 := hb2.hold d2; have e4 := hb2.holdf d4; have e5 := hb2.holdf d5)
          | (go_at_call 88; refine (fSub_u _ _ _ _).mono ?_; rintro _ w3 ⟨rfl, hb3⟩; have f1 := hb3.hold e1; have f2 := hb3.hold e2; have f4 := hb3.holdf e4; have f5 := hb3.holdf e5))
      have hB : Below wr.heap.size wr w3 := Below.next (Nat.le_refl _) (Below.next (Nat.le_refl _) (HQ.out.drew) hb2.b) hb3.b
      have s1 := (HO.out.1.hold hB).set (o + k) (ad p x (ml p y z))
      have s2 := s1.1.set (o + (h + k)) (sb p x (ml p y z))
      have HS := Lib.hid (And.intro s2.1 (grown_trans (grown_trans (grown_next HO.out.2.1 hB) s1.2) s2.2))
      clear s1 s2 hB hb2 hb3 e1 e2 e4 e5 f1 f2 f4 f5 d0 d1 d2 d4 d5
      go_wp2
      exact ⟨⟨k + 1, by go_num, by omega, by assumption, by rw [← HO.out.2.2]; exact HS.out.1, HS.out.2⟩, by simp [intOf]; omega⟩
    · obtain rfl : k = h := by omega
      have HO := Lib.hid (And.intro hown hg)
      clear hown hg
      go_wp2
      go_end0
      exact ⟨rfl, HO.out.1, HO.out.2⟩
end Go.Proofs.Ytdcdaclkeocfpaa

namespace Go.Proofs.Ytdcdaclkeocfpaa
open Go.RowKit
open Classical
namespace Po
variable {q : Nat} [NeZero q]

/-- What stands at place i after s rounds of joins. -/
def lvl (f : Nat → Fin q) (w : Fin q) (B s i : Nat) : Fin q := vl f (pwF w (2 ^ (B - s))) (2 ^ s) (rev (B - s) (i / 2 ^ s)) (2 ^ (B - s)) (i % 2 ^ s)
theorem lvl_zero (f : Nat → Fin q) (w : Fin q) (B i : Nat) : lvl f w B 0 i = f (rev B i) := by
  unfold lvl
  rw [Nat.pow_zero, vl_one, Nat.div_one, Nat.sub_zero]
theorem lvl_end (f : Nat → Fin q) (w : Fin q) {B i : Nat} (h : i < 2 ^ B) : lvl f w B B i = vl f w (2 ^ B) 0 1 i := by
  unfold lvl
  rw [Nat.sub_self, Nat.pow_zero, Nat.mod_eq_of_lt h]
  have : pwF w 1 = w := by show 1 * w = w; grind
  rw [this]; rfl
theorem lvl_split {h j k : Nat} (hk : k < h) : (2 * h * j + k) / (2 * h) = j ∧ (2 * h * j + k) % (2 * h) = k ∧ (2 * h * j + k) / h = 2 * j ∧ (2 * h * j + k) % h = k ∧
    (2 * h * j + (h + k)) / (2 * h) = j ∧ (2 * h * j + (h + k)) % (2 * h) = k + h ∧ (2 * h * j + (h + k)) / h = 2 * j + 1 ∧ (2 * h * j + (h + k)) % h = k := by
  have e1 : 2 * h * j + k = h * (2 * j) + k := by rw [Nat.mul_comm 2 h, Nat.mul_assoc]
  have e2 : 2 * h * j + (h + k) = h * (2 * j + 1) + k := by rw [Nat.mul_add, Nat.mul_comm 2 h, Nat.mul_assoc]; omega
  refine ⟨?_, ?_, ?_, ?_, ?_, ?_, ?_, ?_⟩
  · rw [Nat.mul_add_div (by omega), Nat.div_eq_of_lt (by omega)] <;> omega
  · rw [Nat.mul_add_mod, Nat.mod_eq_of_lt (by omega)]
  · rw [e1, Nat.mul_add_div (by omega), Nat.div_eq_of_lt hk] <;> omega
  · rw [e1, Nat.mul_add_mod, Nat.mod_eq_of_lt hk]
  · rw [Nat.mul_add_div (by omega), Nat.div_eq_of_lt (by omega)] <;> omega
  · rw [Nat.mul_add_mod, Nat.mod_eq_of_lt (by omega)] <;> omega
  · rw [e2, Nat.mul_add_div (by omega), Nat.div_eq_of_lt hk] <;> omega
  · rw [e2, Nat.mul_add_mod, Nat.mod_eq_of_lt hk]
theorem lvl_lo (f : Nat → Fin q) (w : Fin q) {c s j k : Nat} (hk : k < 2 ^ s) :
    lvl f w (s + 1 + c) (s + 1) (2 * 2 ^ s * j + k) = lvl f w (s + 1 + c) s (2 * 2 ^ s * j + k) + pwF w (k * 2 ^ c) * lvl f w (s + 1 + c) s (2 * 2 ^ s * j + (2 ^ s + k)) := by
  obtain ⟨h1, h2, h3, h4, _, _, h7, h8⟩ := lvl_split (j := j) hk
  unfold lvl
  rw [show 2 ^ (s + 1) = 2 * 2 ^ s by rw [Nat.pow_succ, Nat.mul_comm], h1, h2, h3, h4, h7, h8, show s + 1 + c - (s + 1) = c by omega, show s + 1 + c - s = c + 1 by omega, rev_even, rev_odd, vl_lo,
    show 2 ^ (c + 1) = 2 ^ c * 2 by rw [Nat.pow_succ], pwF_pow w (2 ^ c) 2, Nat.mul_comm k (2 ^ c), pwF_pow w (2 ^ c) k, Nat.mul_comm (2 ^ c) 2]
theorem lvl_hi (f : Nat → Fin q) {w : Fin q} {c s j k : Nat} (hw : pwF w (2 ^ (s + c)) = 0 - 1) (hk : k < 2 ^ s) :
    lvl f w (s + 1 + c) (s + 1) (2 * 2 ^ s * j + (2 ^ s + k)) = lvl f w (s + 1 + c) s (2 * 2 ^ s * j + k) - pwF w (k * 2 ^ c) * lvl f w (s + 1 + c) s (2 * 2 ^ s * j + (2 ^ s + k)) := by
  obtain ⟨_, _, h3, h4, h5, h6, h7, h8⟩ := lvl_split (j := j) hk
  have hw2 : pwF (pwF w (2 ^ c)) (2 ^ s) = 0 - 1 := by rw [← pwF_pow, ← Nat.pow_add, Nat.add_comm c s]; exact hw
  unfold lvl
  rw [show 2 ^ (s + 1) = 2 * 2 ^ s by rw [Nat.pow_succ, Nat.mul_comm], h3, h4, h5, h6, h7, h8, show s + 1 + c - (s + 1) = c by omega, show s + 1 + c - s = c + 1 by omega, rev_even, rev_odd, vl_hi hw2,
    show 2 ^ (c + 1) = 2 ^ c * 2 by rw [Nat.pow_succ], pwF_pow w (2 ^ c) 2, Nat.mul_comm k (2 ^ c), pwF_pow w (2 ^ c) k, Nat.mul_comm (2 ^ c) 2]
end Po

theorem ph_powL {p r : Int} (hk : known p = true) {n i : Nat} (h : i < n) : ph p ((powL p r n).getD i 0) = Po.pwF (ph p r) i := by
  rw [getD_lt _ (by rw [powL_len]; exact h), powL_at, ph_emod hk, ph_pow hk]

/-- One join. -/
theorem join_level {p r : Int} (hk : known p = true) {c s j m : Nat} {M : List Int} {f : Nat → Fin (Q p)} (hM : M.length = 2 ^ (s + 1 + c)) (hw : Po.pwF (ph p r) (2 ^ (s + c)) = 0 - 1) (hj : 2 * 2 ^ s * j + 2 * 2 ^ s ≤ M.length) (hm : 2 ^ s * 2 ^ c ≤ m)
    (h : ∀ i, i < M.length → ph p (M.getD i 0) = if i < 2 * 2 ^ s * j then Po.lvl f (ph p r) (s + 1 + c) (s + 1) i else Po.lvl f (ph p r) (s + 1 + c) s i) :
    ∀ i, i < M.length → ph p ((joinK p M (powL p r m) (2 * 2 ^ s * j) (2 ^ s) (2 ^ c) (2 ^ s)).getD i 0) = if i < 2 * 2 ^ s * (j + 1) then Po.lvl f (ph p r) (s + 1 + c) (s + 1) i else Po.lvl f (ph p r) (s + 1 + c) s i := fun i hi => by
  rw [getD_lt _ (by rw [joinK_len]; exact hi), joinK_at hi]
  have hs : 0 < 2 ^ s := Nat.two_pow_pos s
  obtain ⟨H, hH⟩ : ∃ H, H = 2 ^ s := ⟨_, rfl⟩
  have e0 : 2 * H * (j + 1) = 2 * H * j + 2 * H := by rw [Nat.mul_add, Nat.mul_one]
  have key : ∀ k, k < 2 ^ s → k * 2 ^ c < m := fun k hk => Nat.lt_of_lt_of_le (Nat.mul_lt_mul_of_pos_right hk (Nat.two_pow_pos c)) hm
  by_cases h1 : i < 2 * 2 ^ s * j
  · rw [joinF, if_neg (by omega), if_neg (by omega), h i hi, if_pos h1, if_pos (by rw [← hH] at h1 ⊢; omega)]
  · obtain ⟨d, rfl⟩ : ∃ d, i = 2 * 2 ^ s * j + d := ⟨i - 2 * 2 ^ s * j, by omega⟩
    by_cases h2 : d < 2 ^ s
    · rw [joinF, if_pos (by omega), if_pos (by rw [← hH] at h2 ⊢; omega), ph_ad hk, ph_ml hk, h _ (by omega), if_neg (by omega), h _ (by omega), if_neg (by omega), show 2 * 2 ^ s * j + d - 2 * 2 ^ s * j = d by omega, ph_powL hk (key d h2), Po.lvl_lo f _ h2,
        show 2 * 2 ^ s * j + d + 2 ^ s = 2 * 2 ^ s * j + (2 ^ s + d) by omega]
      grind
    · by_cases h3 : d < 2 * 2 ^ s
      · obtain ⟨k, rfl⟩ : ∃ k, d = 2 ^ s + k := ⟨d - 2 ^ s, by omega⟩
        have hk2 : k < 2 ^ s := by omega
        rw [joinF, if_neg (by omega), if_pos (by omega), if_pos (by rw [← hH] at h3 ⊢; omega), ph_sb hk, ph_ml hk, h _ (by omega), if_neg (by omega), h _ (by omega), if_neg (by omega), show 2 * 2 ^ s * j + (2 ^ s + k) - 2 * 2 ^ s * j - 2 ^ s = k by omega, ph_powL hk (key k hk2), Po.lvl_hi f hw hk2,
          show 2 * 2 ^ s * j + (2 ^ s + k) - 2 ^ s = 2 * 2 ^ s * j + k by omega]
        grind
      · rw [joinF, if_neg (by omega), if_neg (by omega), h _ hi, if_neg (by omega), if_neg (by rw [← hH] at h3 ⊢; omega)]
theorem sb_bd2 {p : Int} (hk : known p = true) (a b : Int) : 0 ≤ sb p a b ∧ sb p a b < p := by
  rw [sb, if_pos hk]
  have := known_lo hk
  exact ⟨Int.emod_nonneg _ (by omega), Int.emod_lt_of_pos _ (by omega)⟩
/-- All elements are reduced. -/
def Red (p : Int) (l : List Int) : Prop := ∀ y ∈ l, 0 ≤ y ∧ y < p
theorem join_red {p : Int} (hk : known p = true) {M P : List Int} {o h t k : Nat} (hr : Red p M) : Red p (joinK p M P o h t k) := fun y hy => by
  simp only [joinK, List.mem_map, List.mem_range] at hy
  obtain ⟨i, hi, rfl⟩ := hy
  unfold joinF
  split
  · exact ad_bd hk _ _
  · split
    · exact sb_bd2 hk _ _
    · rw [getD_lt _ hi]; exact hr _ (List.getElem_mem hi)
theorem turnL_red {p : Int} {b : Nat} {l : List Int} (hl : l.length = 2 ^ b) (hr : Red p l) : Red p (turnL b l) := fun y hy => by
  simp only [turnL, List.mem_map, List.mem_range] at hy
  obtain ⟨i, hi, rfl⟩ := hy
  have h2 : rev b i < l.length := by rw [hl]; exact rev_lt b i
  rw [getD_lt _ h2]; exact hr _ (List.getElem_mem h2)
theorem turnL_level {p : Int} {b : Nat} {l : List Int} (w : Fin (Q p)) : ∀ i, i < l.length → ph p ((turnL b l).getD i 0) = Po.lvl (pf p l) w b 0 i := fun i hi => by
  rw [Po.lvl_zero, getD_lt _ (by rw [turnL_len]; exact hi)]
  simp only [turnL, List.getElem_map, List.getElem_range]
  rfl
end Go.Proofs.Ytdcdaclkeocfpaa

namespace Go.Proofs.Ytdcdaclkeocfpaa
open Go.RowKit Go.BigFrame
open Classical

/-- Between the joins: s rounds are done, and j joins of the next one. -/
structure Mid (p r : Int) (a M : List Int) (b s j : Nat) : Prop where
  len : M.length = a.length
  at_ : ∀ i, i < M.length → ph p (M.getD i 0) = if i < 2 * 2 ^ s * j then Po.lvl (pf p a) (ph p r) b (s + 1) i else Po.lvl (pf p a) (ph p r) b s i
  red : Red p a → Red p M
theorem Mid.start {p r : Int} {a : List Int} {b : Nat} (hl : a.length = 2 ^ b) : Mid p r a (turnL b a) b 0 0 :=
  ⟨turnL_len _ _, fun i hi => by rw [if_neg (by omega)]; exact turnL_level _ i (by rw [turnL_len] at hi; exact hi), turnL_red hl⟩
theorem Mid.next {p r : Int} {a M : List Int} {b s c j : Nat} (h : Mid p r a M b s j) (hk : known p = true) (hl : a.length = 2 ^ b) (hb : b = s + 1 + c) (hw : Po.pwF (ph p r) (2 ^ (b - 1)) = 0 - 1) (hj : 2 * 2 ^ s * j + 2 * 2 ^ s ≤ a.length) {m : Nat} (hm : 2 ^ s * 2 ^ c ≤ m) :
    Mid p r a (joinK p M (powL p r m) (2 * 2 ^ s * j) (2 ^ s) (2 ^ c) (2 ^ s)) b s (j + 1) := by
  subst hb
  have hM : M.length = 2 ^ (s + 1 + c) := by rw [h.len, hl]
  refine ⟨by rw [joinK_len, h.len], ?_, fun hr => join_red hk (h.red hr)⟩
  rw [joinK_len]
  exact join_level hk hM (by rw [show s + c = s + 1 + c - 1 by omega]; exact hw) (by rw [h.len]; exact hj) hm h.at_
theorem Mid.round {p r : Int} {a M : List Int} {b s j : Nat} (h : Mid p r a M b s j) (hj : 2 * 2 ^ s * j = a.length) : Mid p r a M b (s + 1) 0 :=
  ⟨h.len, fun i hi => by rw [h.at_ i hi, if_pos (by rw [hj, ← h.len]; exact hi), if_neg (by omega)], h.red⟩

/-- What transform returns. -/
structure Trf (p r : Int) (a M : List Int) : Prop where
  len : M.length = a.length
  val : ∀ k (h : k < M.length), ph p M[k] = Po.vl (pf p a) (ph p r) a.length 0 1 k
  red : Red p a → Red p M
theorem Mid.done {p r : Int} {a M : List Int} {b : Nat} (h : Mid p r a M b b 0) (hl : a.length = 2 ^ b) : Trf p r a M :=
  ⟨h.len, fun k hk => by
    have h1 := h.at_ k hk
    rw [getD_lt _ hk, if_neg (by omega), Po.lvl_end _ _ (by rw [← hl, ← h.len]; exact hk), ← hl] at h1
    exact h1, h.red⟩

set_option maxRecDepth 100000 in
set_option maxHeartbeats 8000000 in
theorem transform_w (p r : Int) [hrU : U r] (hk : known p = true) (va : Value) (a : List Int) (b : Nat) (w : World) (hla : Lst w va a) (hab : a.length = 2 ^ b) (hb : b ≤ 12) (hw : b ≠ 0 → Po.pwF (ph p r) (2 ^ (b - 1)) = 0 - 1) :
    Calls Try.prog 86 #[.agg #[.int .u64 p], va, .int .u64 r] w fun e w' => ∃ g M, e = .returned (.slice (some ⟨g, 0, none⟩) a.length a.length) ∧ Own w' w.heap.size (.slice (some ⟨g, 0, none⟩) a.length a.length) M ∧ Trf p r a M ∧ Below w.heap.size w w' := by
  obtain ⟨a0, c0, rfl⟩ := hla.shape
  have hp2 : (2 : Nat) ^ b ≤ 2 ^ 12 := Nat.pow_le_pow_right (by decide) hb
  have hp0 : 0 < 2 ^ b := Nat.two_pow_pos b
  have i1 : (1 : Int) ≤ (a.length : Int) := by omega
  have i2 : (a.length : Int) ≤ 4096 := by omega
  obtain ⟨m, hm⟩ : ∃ m, m = a.length / 2 := ⟨_, rfl⟩
  have hd : (a.length : Int).tdiv 2 = (m : Int) := by rw [Int.tdiv_eq_ediv_of_nonneg (by omega)]; omega
  have hd1 : (a.length : Int) / 2 = (m : Int) := by omega
  have i3 : (m : Int) ≤ 4096 := by omega
  have HK := Lib.hid (And.intro hk (And.intro hab (And.intro hb (And.intro hw hm))))
  have HL := Lib.hid hla
  clear hk hab hb hw hla hp2 hp0 hm
  go_enter Try.func86, Try.ntmps86
  go_upto_region 1 with fail
  refine name_world ?_
  intro W hW
  have hf : W.cell? ⟨w.heap.size, 0, none⟩ = some (.int .u64 p) := by rw [hW]; go_simp
  have hB0 : Below w.heap.size w W := by rw [hW]; exact Below.made (Nat.le_refl _) (Below.refl _ _) _
  have HB := Lib.hid hB0
  have hfW := hf
  clear hW hB0
  go_upto_region 2 with (go_at_call 113; refine (reversed_u _ a b _ (HL.out.hold HB.out) HK.out.2.1 HK.out.2.2.1).mono ?_; rintro _ w1 ⟨g, rfl, hown1, hb1⟩; have hf1 := Below.hold hb1 hf)
  have HO1 := Lib.hid (And.intro hown1 hb1)
  have hg1 := (hown1.row.lt g rfl).2
  clear hown1 hb1 hf
  go_upto_region 3 with (go_at_call 93; refine (fPowers_o p r m HK.out.1 (by omega) _).mono ?_; rintro _ w2 ⟨vp, rfl, hown2, hb2⟩; have hf2 := Below.hold hb2 hf1)
  have hpo := hown2.row.lt
  have hoff : 0 < (powL p r m).length → vp.ownBlock ≠ some g := fun _ e => by
    have := (hpo g e).1
    omega
  have hgb := (HO1.out.1.row.lt g rfl).1
  have hbw : w.heap.size < W.heap.size := World.block_lt_of_cell? _ _ hfW
  have HO2 := Lib.hid (And.intro hown2 (And.intro hb2 (And.intro hoff hf2)))
  have HBw := Lib.hid (Below.next (Nat.le_refl _) HO1.out.2 hb2)
  have HG := Lib.hid (show g ≠ w.heap.size by omega)
  have HOw := Lib.hid (HO1.out.1.hold hb2)
  clear hown2 hb2 hoff hf2 hf1 hpo hgb hfW
  go_wp2
  go_loopw [9] (fun hv wr => ∃ (s H : Nat) (M : List Int), hv = .int .i64 H ∧ H = 2 ^ s ∧ s ≤ b ∧ Own wr W.heap.size (.slice (some ⟨g, 0, none⟩) a.length a.length) M ∧ Mid p r a M b s 0 ∧ w2.grownBy wr (some g)) (fun hv _ => a.length - (intOf hv).toNat)
  case atStart => exact ⟨0, 1, _, rfl, rfl, Nat.zero_le _, HOw.out, Mid.start HK.out.2.1, World.grownBy.refl _ _⟩
  case round =>
    obtain ⟨s, H, M, rfl, hH, hs, hown, hmid, hgr⟩ := hrel
    by_cases hlt : s < b
    · obtain ⟨c, hc⟩ : ∃ c, b = s + 1 + c := ⟨b - s - 1, by omega⟩
      obtain ⟨C, hC⟩ : ∃ C, C = 2 ^ c := ⟨_, rfl⟩
      have hn : a.length = 2 * H * C := by rw [HK.out.2.1, hc, Nat.pow_add, Nat.pow_succ, ← hH, ← hC, Nat.mul_comm H 2]
      have hH0 : 0 < H := by rw [hH]; exact Nat.two_pow_pos s
      have hC0 : 0 < C := by rw [hC]; exact Nat.two_pow_pos c
      have hle : 2 * H * 1 ≤ 2 * H * C := Nat.mul_le_mul_left _ hC0
      have j1 : (1 : Int) ≤ (H : Int) := by omega
      have j2 : 2 * (H : Int) ≤ (a.length : Int) := by omega
      have j3 : (H : Int) < (a.length : Int) := by omega
      have HN := Lib.hid (And.intro hn (And.intro hH (And.intro hC (And.intro hc (And.intro hs hmid.len)))))
      have HV := Lib.hid (And.intro hown (And.intro hmid hgr))
      clear hown hmid hgr hn hle hH hC hc hs
      go_wp2_with fail
      go_loopw [10] (fun zv wi => ∃ (j z : Nat) (N : List Int), zv = .int .i64 z ∧ z = 2 * H * j ∧ z ≤ a.length ∧ Own wi W.heap.size (.slice (some ⟨g, 0, none⟩) a.length a.length) N ∧ Mid p r a N b s j ∧ w2.grownBy wi (some g)) (fun zv _ => a.length - (intOf zv).toNat)
      case atStart => exact ⟨0, 0, M, rfl, by simp, Nat.zero_le _, HV.out.1, HV.out.2.1, HV.out.2.2⟩
      case round =>
        obtain ⟨j, z, N, rfl, hz, hzn, hown, hmid, hgr⟩ := hrel
        by_cases hzl : z < a.length
        · have hjC : j < C := by
            have h1 := HN.out.1
            rw [hz, h1] at hzl
            exact Nat.lt_of_mul_lt_mul_left hzl
          have hzH : z + 2 * H ≤ a.length := by
            have h1 : 2 * H * (j + 1) ≤ 2 * H * C := Nat.mul_le_mul_left _ hjC
            rw [Nat.mul_add, Nat.mul_one] at h1
            have h2 := HN.out.1
            omega
          have k1 : (z : Int) < (a.length : Int) := by omega
          have k2 : (z : Int) + 2 * (H : Int) ≤ (a.length : Int) := by omega
          have k3 : (0 : Int) ≤ (z : Int) := by omega
          have hp := grown_cell hgr HO2.out.2.2.2 (by intro e; cases e; exact HG.out rfl)
          have hNl := hmid.len
          have HZ := Lib.hid (And.intro hown (And.intro hmid (And.intro hgr (And.intro hz (And.intro hjC (And.intro hzH hNl))))))
          clear hown hmid hgr hz hjC hzH hNl hzn hzl
          go_wp2_with fail
          have k0 := fun q : NwAt wr => q.nw.hold hp
          refine from_here ?_
          intro q
          refine wp_region_nwt 9 (by kernel_rfl) (by kernel_rfl) ?_
          simp only [List.take_succ_cons, List.take_zero, List.drop_succ_cons, List.drop_zero]
          repeat (go_big_quiet_step ((first | fail)))
          refine wpQuiet_nil ?_
          clear q
          rintro _ ⟨q, rfl⟩
          go_wp2_with fail
          have hmP : (powL p r m).length = H * C := by
            have h1 := HK.out.2.2.2.2
            have h2 := HN.out.1
            rw [Nat.mul_assoc] at h2
            rw [powL_len]
            omega
          have hNl := HZ.out.2.2.2.2.2.2
          have hN2 := HZ.out.2.2.2.2.2.1
          have hown := HZ.out.1.hold q.nw.b
          rw [← hNl] at hown hN2
          have hlp := (HO2.out.1.lst.kept HZ.out.2.2.1 HO2.out.2.2.1).hold q.nw.b
          refine (join_w p W.heap.size g _ _ z H C N (powL p r m) vp q.out hown hlp HO2.out.2.2.1 hN2 (by omega) (by omega) hmP (by omega) (by rw [powL_len]; omega)).mono ?_
          rintro _ w3 ⟨rfl, hown3, hg3⟩
          have hmid := HZ.out.2.1.next (c := c) HK.out.1 HK.out.2.1 HN.out.2.2.2.1 (HK.out.2.2.2.1 (by omega)) (by rw [← HN.out.2.1, ← HZ.out.2.2.2.1]; omega) (m := m) (by rw [← HN.out.2.1, ← HN.out.2.2.1, ← hmP, powL_len]; exact Nat.le_refl _)
          rw [← HN.out.2.1, ← HN.out.2.2.1, ← HZ.out.2.2.2.1] at hmid
          have hgr := grown_trans (grown_next HZ.out.2.2.1 q.nw.b) hg3
          rw [hNl] at hown3
          have HR := Lib.hid (And.intro hown3 (And.intro hmid hgr))
          clear hown3 hmid hgr hown hN2 hlp hg3 hmP hp k0 hNl
          go_wp2
          exact ⟨⟨j + 1, z + 2 * H, _, by go_num, by rw [HZ.out.2.2.2.1, Nat.mul_add, Nat.mul_one], by omega, HR.out.1, HR.out.2.1, HR.out.2.2⟩, by simp [intOf]; omega⟩
        · obtain rfl : z = a.length := by omega
          have HZ := Lib.hid (And.intro hown (And.intro hmid (And.intro hgr hz)))
          clear hown hmid hgr hz hzn
          go_wp2
          exact ⟨⟨s + 1, 2 * H, _, by go_num, by rw [HN.out.2.1, Nat.pow_succ, Nat.mul_comm], by omega, HZ.out.1, HZ.out.2.1.round (by rw [← HN.out.2.1]; exact HZ.out.2.2.2.symm), HZ.out.2.2.1⟩, by simp [intOf]; omega⟩
    · obtain rfl : s = b := by omega
      have hHn : H = a.length := by rw [hH, HK.out.2.1]
      subst hHn
      have HV := Lib.hid (And.intro hown (And.intro hmid hgr))
      clear hown hmid hgr
      go_wp2
      go_ret
      have hB3 := Below.wrote HBw.out (Nat.le_refl _) HBw.out.size HOw.out HV.out.2.2
      exact ⟨_, _, rfl, HV.out.1.low HB.out.size, HV.out.2.1.done HK.out.2.1, Below.next (Nat.le_refl _) HB.out hB3⟩
end Go.Proofs.Ytdcdaclkeocfpaa

namespace Go.Proofs.Ytdcdaclkeocfpaa
open Go.RowKit Go.BigFrame
open Classical
namespace Po
variable {q : Nat} [NeZero q]

/-- The sum of the coefficients at places that are j more than a multiple of n, of the first k. -/
def fold (g : Nat → Fin q) (n k j : Nat) : Fin q := sm (fun i => if i % n = j then g i else 0) k
theorem fold_zero (g : Nat → Fin q) (n j : Nat) : fold g n 0 j = 0 := rfl
theorem fold_hit (g : Nat → Fin q) (n k : Nat) : fold g n (k + 1) (k % n) = fold g n k (k % n) + g k := by
  unfold fold
  rw [sm, if_pos rfl]
theorem fold_miss (g : Nat → Fin q) {n k j : Nat} (h : j ≠ k % n) : fold g n (k + 1) j = fold g n k j := by
  unfold fold
  rw [sm, if_neg (fun e => h e.symm)]; grind
theorem pwF_mod {x : Fin q} {n : Nat} (hx : pwF x n = 1) (i : Nat) : pwF x (i % n) = pwF x i := by
  have h := Nat.div_add_mod i n
  rw [← h, pwF_add, pwF_pow, hx, pwF_one, h]; grind
/-- The folded polynomial has the same value where x^n is 1. -/
theorem ev_folded (g : Nat → Fin q) {x : Fin q} {n : Nat} (hn : 0 < n) (hx : pwF x n = 1) : ∀ k, sm (fun j => fold g n k j * pwF x j) n = sm (fun i => g i * pwF x i) k
  | 0 => by
    have h : ∀ j, j < n → fold g n 0 j * pwF x j = 0 := fun j _ => by rw [fold_zero]; grind
    rw [sm_congr h, sm_zero]; rfl
  | k + 1 => by
    have h : ∀ j, j < n → fold g n (k + 1) j * pwF x j = fold g n k j * pwF x j + (if j = k % n then g k * pwF x j else 0) := fun j _ => by
      by_cases e : j = k % n
      · rw [if_pos e, e, fold_hit]; grind
      · rw [if_neg e, fold_miss g e]; grind
    rw [sm_congr h, sm_add, ev_folded g hn hx k, sm]
    congr 1
    rw [sm_single (k := k % n) (Nat.mod_lt _ hn) (fun i _ hi => if_neg hi), if_pos rfl, pwF_mod hx]
end Po

/-- The coefficients, folded, after k rounds. -/
structure Fold (p s : Int) (a M : List Int) (n k : Nat) : Prop where
  len : M.length = n
  at_ : ∀ j, j < n → ph p (M.getD j 0) = Po.fold (fun i => pf p a i * Po.pwF (ph p s) i) n k j
  red : Red p M
theorem Fold.start {p : Int} (hk : known p = true) (s : Int) (a : List Int) (n : Nat) : Fold p s a (List.replicate n 0) n 0 :=
  ⟨by simp, fun j hj => by rw [getD_lt _ (by simpa using hj), List.getElem_replicate, ph_zero hk]; rfl, fun y hy => by
    rw [(List.mem_replicate.1 hy).2]
    have := known_lo hk
    omega⟩
theorem Fold.next {p s : Int} {a M : List Int} {n k : Nat} (h : Fold p s a M n k) (hk : known p = true) (hka : k < a.length) {v : Int} (hv : ph p v = Po.pwF (ph p s) k) (hj : k % n < M.length) :
    Fold p s a (M.set (k % n) (ad p M[k % n] (ml p a[k] v))) n (k + 1) := by
  refine ⟨by rw [List.length_set, h.len], fun j hjn => ?_, fun y hy => ?_⟩
  · have hl := h.len
    rw [getD_lt _ (by rw [List.length_set]; omega), List.getElem_set]
    by_cases e : k % n = j
    · subst e
      rw [if_pos rfl, Po.fold_hit, ← h.at_ _ hjn, ph_ad hk, ph_ml hk, getD_lt _ hj, hv, pf_el a hka]
    · rw [if_neg e, Po.fold_miss _ (Ne.symm e), ← h.at_ _ hjn, getD_lt _ (by omega)]
  · rcases List.mem_or_eq_of_mem_set hy with hy | rfl
    · exact h.red y hy
    · exact ad_bd hk _ _
/-- What is folded has the values at the points of the domain. -/
theorem Fold.ev {p s : Int} {a M : List Int} {n : Nat} (h : Fold p s a M n a.length) (hn : 0 < n) {x : Fin (Q p)} (hx : Po.pwF x n = 1) : Po.ev (pf p M) x n = Po.ev (pf p a) (ph p s * x) a.length := by
  rw [Po.ev_shift, Po.ev_sm, Po.ev_sm]
  refine Eq.trans (Po.sm_congr fun j hj => ?_) (Po.ev_folded (fun i => pf p a i * Po.pwF (ph p s) i) hn hx a.length)
  rw [← h.at_ j hj]; rfl

set_option maxRecDepth 100000 in
set_option maxHeartbeats 8000000 in
theorem onRoots_w (p s : Int) [hsU : U s] (hk : known p = true) (va : Value) (a : List Int) (n : Nat) (w : World) (hla : Lst w va a) (hna : a.length ≤ 100000) (hn0 : 0 < n) (hn1 : n ≤ 4096) :
    Calls Try.prog 117 #[.agg #[.int .u64 p], va, .int .u64 s, .int .i64 n] w fun e w' => ∃ g M, e = .returned (.slice (some ⟨g, 0, none⟩) n n) ∧ Own w' w.heap.size (.slice (some ⟨g, 0, none⟩) n n) M ∧ Fold p s a M n a.length ∧ Below w.heap.size w w' := by
  obtain ⟨a0, c0, rfl⟩ := hla.shape
  have i1 : (1 : Int) ≤ (n : Int) := by omega
  have i2 : (n : Int) ≤ 4096 := by omega
  have i3 : (a.length : Int) ≤ 100000 := by omega
  have i4 : ¬ (n : Int) = 0 := by omega
  have hnb : ((n : Int) == 0) = false := by simpa using i4
  have HK := Lib.hid hk
  have HL := Lib.hid hla
  clear hk hla
  go_enter Try.func117, Try.ntmps117
  go_upto_region 1 with fail
  refine name_world ?_
  intro W hW
  have hf : W.cell? ⟨w.heap.size, 0, none⟩ = some (.int .u64 p) := by rw [hW]; go_simp
  have hB0 : Below w.heap.size w W := by rw [hW]; exact Below.made (Nat.le_refl _) (Below.refl _ _) _
  have HB := Lib.hid hB0
  clear hW hB0
  go_upto_region 2 with (at_make; refine make_zeros rfl (.tmp 13) (.tmp 13) rfl W.heap.size n rfl rfl (by omega) (Nat.le_refl _) ?_; intro v3 w3 hown3 hv3 hb3; subst hv3; have hf3 := Below.hold hb3 hf)
  have hbw : w.heap.size < W.heap.size := World.block_lt_of_cell? _ _ hf
  obtain ⟨g, hg⟩ : ∃ g, g = W.heap.size := ⟨_, rfl⟩
  rw [← hg] at hown3 hbw ⊢
  have HO := Lib.hid (And.intro hown3 (And.intro hb3 (And.intro hg hf3)))
  clear hown3 hb3 hg hf
  go_wp2
  go_loopw [10, 17] (fun pv iv wr => ∃ (k : Nat) (x : Int) (M : List Int), pv = .int .u64 x ∧ iv = .int .i64 k ∧ k ≤ a.length ∧ U x ∧ ph p x = Po.pwF (ph p s) k ∧ wr.cell? ⟨w.heap.size, 0, none⟩ = some (.int .u64 p) ∧ Own wr g (.slice (some ⟨g, 0, none⟩) n n) M ∧ Fold p s a M n k ∧ Below w.heap.size w wr) (fun _ iv _ => a.length - (intOf iv).toNat)
  case atStart => exact ⟨0, 1, _, rfl, rfl, Nat.zero_le _, inferInstance, by rw [ph_one HK.out]; rfl, HO.out.2.2.2, HO.out.1, Fold.start HK.out s a n, Below.next (Nat.le_refl _) HB.out HO.out.2.1⟩
  case round =>
    obtain ⟨k, x, M, rfl, rfl, hk, hxU, hx, hp, hown, hfold, hb⟩ := hrel
    have i0 : (0 : Int) ≤ (k : Int) := by omega
    clear hf3
    by_cases hlt : k < a.length
    · obtain ⟨bb, ob, cb, e, hc⟩ := (HL.out.hold hb).cells k hlt
      obtain ⟨rfl, rfl⟩ : a0 = some ⟨bb, ob, none⟩ ∧ c0 = cb := by simp at e; exact e
      clear e
      have hua := HL.out.us a[k] (List.getElem_mem hlt)
      have hrn : k % n < n := Nat.mod_lt _ hn0
      have hrM : k % n < M.length := by rw [hfold.len]; exact hrn
      have hc2 := hown.cell hrM
      have huM := hown.us M[k % n] (List.getElem_mem hrM)
      have hz := hown.thawed (k % n)
      have hnext := hfold.next HK.out hlt hx hrM
      have hxn : ph p (ml p x s) = Po.pwF (ph p s) (k + 1) := by rw [ph_ml HK.out, hx]; rfl
      have ht : (k : Int).tmod (n : Int) = ((k % n : Nat) : Int) := by rw [Int.tmod_eq_emod_of_nonneg i0]; exact (Int.natCast_emod _ _).symm
      have ht2 : (k : Int) % (n : Int) = ((k % n : Nat) : Int) := (Int.natCast_emod _ _).symm
      obtain ⟨y, hy⟩ : ∃ y, y = a[k] := ⟨_, rfl⟩
      rw [← hy] at hc hua hnext
      obtain ⟨z, hz0⟩ : ∃ z, z = M[k % n] := ⟨_, rfl⟩
      rw [← hz0] at hc2 huM hnext
      obtain ⟨r, hr⟩ : ∃ r, r = k % n := ⟨_, rfl⟩
      rw [← hr] at hc2 hz hnext ht ht2 hrn
      have i5 : (k : Int) < (a.length : Int) := by omega
      have i6 : (0 : Int) ≤ (r : Int) := by omega
      have i7 : (r : Int) < (n : Int) := by omega
      have i8 : IntKind.i64.wrap (r : Int) = (r : Int) := by rw [IntKind.wrap_i64]; omega
      have HV := Lib.hid (And.intro hown (And.intro hb (And.intro hnext hxn)))
      clear hown hfold hb hnext hxn hx hy hz0 hr hrM hlt
      go_wp2_with fail
      have k0 := fun q : NwAt wr => q.nw.hold hp
      have k1 := fun q : NwAt wr => q.nw.hold hc
      have k2 := fun q : NwAt wr => q.nw.hold hc2
      have k3 := fun q : NwAt wr => q.nw.holdf hz
      refine from_here ?_
      intro q
      refine wp_region_nwt 16 (by kernel_rfl) (by kernel_rfl) ?_
      simp only [List.take_succ_cons, List.take_zero, List.drop_succ_cons, List.drop_zero]
      repeat (go_big_quiet_step ((first | (go_at_call 38; exact nwAt_of (fMul_u _ _ _ _)) | (go_at_call 97; exact nwAt_of (fAdd_u _ _ _ _)))))
      refine wpQuiet_nil ?_
      clear q
      rintro _ ⟨q, rfl⟩
      have j1 := k2 q
      have j3 := k3 q
      have j0 := k0 q
      clear k0 k1 k2 k3
      have hs := (HV.out.1.hold q.nw.b).set r (ad p z (ml p y x))
      have hp2 : (q.out.setCell ⟨g, r, none⟩ (.int .u64 (ad p z (ml p y x)))).cell? ⟨w.heap.size, 0, none⟩ = some (.int .u64 p) := (World.cell?_setCell_far _ _ _ _ (by show g ≠ w.heap.size; omega)).trans j0
      have HS := Lib.hid (And.intro hs.1 (Below.wrote (Below.next (Nat.le_refl _) HV.out.2.1 q.nw.b) (Nat.le_of_lt hbw) (Nat.le_trans HV.out.2.1.size q.nw.b.size) (HV.out.1.hold q.nw.b) hs.2))
      clear hs
      go_wp2_with (go_at_call 38; refine (fMul_u p x s _).mono ?_; rintro _ w5 ⟨rfl, hb5⟩; have hp5 := hb5.hold hp2)
      exact ⟨⟨k + 1, ml p x s, _, rfl, by go_num, by omega, inferInstance, HV.out.2.2.2, hp5, HS.out.1.hold hb5.b, HV.out.2.2.1, Below.next (Nat.le_refl _) HS.out.2 hb5.b⟩, by simp [intOf]; omega⟩
    · obtain rfl : k = a.length := by omega
      have HV := Lib.hid (And.intro hown (And.intro hfold hb))
      clear hown hfold hb
      go_wp2
      go_ret
      exact ⟨_, _, rfl, HV.out.1.low (Nat.le_of_lt hbw), HV.out.2.1, HV.out.2.2⟩
end Go.Proofs.Ytdcdaclkeocfpaa

namespace Go.Proofs.Ytdcdaclkeocfpaa
open Go.RowKit Go.BigFrame
open Classical

theorem len_pow {p n : Int} (h : LenOk p n) : ∃ b : Nat, n = ((2 ^ b : Nat) : Int) ∧ b ≤ 12 := by
  obtain ⟨k, hk⟩ := h.1.2.2.1
  refine ⟨k, hk, ?_⟩
  apply Classical.byContradiction
  intro hc
  have : (2 : Nat) ^ 13 ≤ 2 ^ k := Nat.pow_le_pow_right (by decide) (by omega)
  have h2 := h.2
  omega
theorem root_minus {p n : Int} (h : LenOk p n) {b : Nat} (hn : n = ((2 ^ b : Nat) : Int)) (hb : b ≠ 0) : Po.pwF (ph p (rtw p n)) (2 ^ (b - 1)) = 0 - 1 := by
  have hk := h.1.1
  obtain ⟨k, rfl⟩ : ∃ k, b = k + 1 := ⟨b - 1, by omega⟩
  have h1 : 0 < 2 ^ k := Nat.two_pow_pos k
  have hn2 : n = 2 * ((2 ^ k : Nat) : Int) := by rw [hn, Nat.pow_succ]; omega
  have hh := root_half h.1 (by omega)
  have hc := ph_pw hk (rtw p n) (n / 2)
  have hpw : pw p (rtw p n) (n / 2) = p - 1 := hh
  rw [hpw] at hc
  have e1 : (n / 2).toNat = 2 ^ k := by omega
  have e2 : ph p (p - 1) = 0 - 1 := by
    rw [← ph_sub hk, ph_one hk]
    have : ph p p = 0 := (ph_eq_zero hk p).2 (Int.emod_self)
    rw [this]
  rw [e1, e2] at hc
  exact hc.symm
theorem red_ival {p y : Int} (hk : known p = true) (h : 0 ≤ y ∧ y < p) : y = ival p (ph p y) := by
  rw [← ival_ph hk, Int.emod_eq_of_lt h.1 h.2]
/-- The transform of what is folded: the values at the points of the domain. -/
theorem trf_evL {p s : Int} {n : Nat} {a M R : List Int} (h : LenOk p n) (hf : Fold p s a M n a.length) (ht : Trf p (rtw p n) M R) : R = evL p a s n := by
  have hk := h.1.1
  have hn1 := h.1.2.1
  have hprim := len_prim h
  rw [show ((n : Int)).toNat = n from Int.toNat_natCast _] at hprim
  have hR : R.length = n := by rw [ht.len, hf.len]
  refine List.ext_getElem (by rw [evL_len, hR]) fun k h1 h2 => ?_
  rw [red_ival hk (ht.red hf.red _ (List.getElem_mem h1)), ht.val k h1]
  simp only [evL, List.getElem_map, List.getElem_range]
  rw [hf.len, Po.vl_ev, hf.ev (by omega) (hprim.pow k)]
  rfl

set_option maxRecDepth 100000 in
set_option maxHeartbeats 8000000 in
theorem tEvaluate_w (p s n : Int) [hs : U s] (va : Value) (a : List Int) (w : World) (hla : Lst w va a) (hna : a.length ≤ 100000) (hn0 : -9223372036854775808 ≤ n) (hn1 : n ≤ 9223372036854775807) :
    Calls Try.prog 94 #[.agg #[.int .u64 p], va, .int .u64 s, .int .i64 n] w (Pair w (resE p a s n) (errE p a s n)) := by
  obtain ⟨a0, c0, rfl⟩ := hla.shape
  have HL := Lib.hid hla
  clear hla
  by_cases he : errD p s n = 0
  · have hN : rootN p s n = rtw p n := by rw [rootN, if_pos he]
    by_cases hl : a.length ≤ 8192
    · have h1 : errE p a s n = 0 := by rw [errE, if_pos he, if_pos hl]
      have h2 : resE p a s n = evL p a s n := by rw [resE, if_pos h1]
      have hlen := (errD_zero.1 he).1
      obtain ⟨b, hb, hb12⟩ := len_pow hlen
      obtain ⟨N, hN2⟩ : ∃ N : Nat, N = 2 ^ b := ⟨_, rfl⟩
      rw [← hN2] at hb
      subst hb
      rw [h1, h2]
      have hn4 := hlen.2
      have hnp := hlen.1.2.1
      have hm := fun hb0 => root_minus hlen (b := b) (by rw [hN2]) hb0
      have HK := Lib.hid (And.intro hlen (And.intro he (And.intro hN (And.intro hN2 (And.intro hb12 hm)))))
      have i1 : (a.length : Int) ≤ 8192 := by omega
      clear h1 h2 he hN hlen hN2 hb12 hm
      go_enter Try.func94, Try.ntmps94
      go_upto_region 6 with (go_at_call 85; refine (rootOf_u p s N hn0 hn1 _).mono ?_; rintro e w1 ⟨rfl, hb1⟩; rw [HK.out.2.1, HK.out.2.2.1]; have hf : w1.cell? ⟨w.heap.size, 0, none⟩ = some (.int .u64 p) := hb1.hold (by go_simp))
      have HB := Lib.hid (Below.next (Nat.le_refl _) (Below.made (Nat.le_refl _) (Below.refl _ _) _) hb1.b)
      have HA := Lib.hid (HL.out.hold HB.out)
      have hcell := fun (w' : World) (h : Below w1.heap.size w1 w') => Below.hold h hf
      have F := Below.refl w1.heap.size w1
      clear hb1 hf
      go_region_held3 (fun w' => Below w1.heap.size w1 w')
        (repeat (first | assumption | refine Below.drew ?_ | refine Below.next (Nat.le_refl _) ?_ (by assumption)))
        (first
          | (go_at_call 117; refine (onRoots_w p s HK.out.1.1.1 _ a N _ (HA.out.hold (by assumption)) (by omega) (by omega) (by omega)).mono ?_; rintro _ w2 ⟨g, M, rfl, hown2, hfold, hb2⟩)
          | (go_at_call 86; refine (transform_w p (rtw p N) HK.out.1.1.1 _ M b _ hown2.lst (by rw [hfold.len]; exact HK.out.2.2.2.1) HK.out.2.2.2.2.1 HK.out.2.2.2.2.2).mono ?_; rintro _ w3 ⟨g3, R, rfl, hown3, htrf, hb3⟩))
      all_goals
        go_wp2
        refine bodyPost_ret (results_tmp2 rfl _ _ _) rfl ?_
        have hR := trf_evL HK.out.1 hfold htrf
        rw [hR] at hown3
        exact ⟨_, rfl, hown3.low (Nat.le_trans HB.out.size (by have := hb2.size; simpa using this)), Below.next (Nat.le_refl _) HB.out (by assumption)⟩
    · have h1 : errE p a s n = 3 := by rw [errE, if_pos he, if_neg hl]
      have h2 : resE p a s n = [] := by rw [resE, if_neg (by rw [h1]; decide)]
      rw [h1, h2]
      have HK := Lib.hid (And.intro hN he)
      have i1 : ¬ ((a.length : Int) ≤ 8192) := by omega
      clear h1 h2 he hN
      go_enter Try.func94, Try.ntmps94
      go_wp2_with (go_at_call 85; refine (rootOf_u p s n hn0 hn1 _).mono ?_; rintro e w1 ⟨rfl, hb1⟩; rw [HK.out.1, HK.out.2])
      refine bodyPost_ret (results_tmp2 rfl _ _ _) rfl ?_
      exact ⟨_, rfl, Own.nil _ _, Below.next (Nat.le_refl _) (Below.made (Nat.le_refl _) (Below.refl _ _) _) hb1.b⟩
  · have h1 : errE p a s n = errD p s n := by rw [errE, if_neg he]
    have h2 : resE p a s n = [] := by rw [resE, if_neg (by rw [h1]; exact he)]
    have hN : rootN p s n = 0 := by rw [rootN, if_neg he]
    rw [h1, h2]
    obtain ⟨er, her⟩ : ∃ er, er = errD p s n := ⟨_, rfl⟩
    rw [← her] at he ⊢
    have hne : (er != 0) = true := by simpa using he
    have HK := Lib.hid (And.intro hN her)
    clear h1 h2 her hN
    go_enter Try.func94, Try.ntmps94
    go_wp2_with (go_at_call 85; refine (rootOf_u p s n hn0 hn1 _).mono ?_; rintro e w1 ⟨rfl, hb1⟩; rw [← HK.out.2, HK.out.1])
    refine bodyPost_ret (results_tmp2 rfl _ _ _) rfl ?_
    exact ⟨_, rfl, Own.nil _ _, Below.next (Nat.le_refl _) (Below.made (Nat.le_refl _) (Below.refl _ _) _) hb1.b⟩

set_option maxHeartbeats 2000000 in
theorem tForward_w (p : Int) (va : Value) (a : List Int) (w : World) (hla : Lst w va a) (hna : a.length ≤ 100000) :
    Calls Try.prog 51 #[.agg #[.int .u64 p], va] w (Pair w (resE p a 1 a.length) (errE p a 1 a.length)) := by
  obtain ⟨a0, c0, rfl⟩ := hla.shape
  have HL := Lib.hid hla
  clear hla
  go_enter Try.func51, Try.ntmps51
  go_upto_region 1 with fail
  refine name_world ?_
  intro W hW
  have hf : W.cell? ⟨w.heap.size, 0, none⟩ = some (.int .u64 p) := by rw [hW]; go_simp
  have hB0 : Below w.heap.size w W := by rw [hW]; exact Below.made (Nat.le_refl _) (Below.refl _ _) _
  have HB := Lib.hid hB0
  clear hW hB0
  have i1 : (a.length : Int) ≤ 100000 := by omega
  go_wp2_with (go_at_call 94; refine (tEvaluate_w p 1 a.length _ a _ (HL.out.hold HB.out) hna (by omega) (by omega)).mono ?_; rintro _ w1 ⟨v1, rfl, hown, hb1⟩)
  refine bodyPost_ret (results_tmp2 rfl _ _ _) rfl ?_
  exact ⟨_, rfl, hown.low HB.out.size, Below.next (Nat.le_refl _) HB.out hb1⟩
end Go.Proofs.Ytdcdaclkeocfpaa

namespace Go.Proofs.Ytdcdaclkeocfpaa
open Go.RowKit Go.BigFrame
open Classical

theorem iv_root {p n : Int} (h : LenOk p n) : ph p (rtw p n) * ph p (iv p (rtw p n)) = 1 := by
  have hk := h.1.1
  have hpl := known_lo hk
  have h0 : 0 ≤ rtw p n := (instUpw : U (rtw p n)).lo
  have hz : rtw p n % p ≠ 0 := fun e => by
    have hp := len_prim h
    have h1 := hp.1
    rw [(ph_eq_zero hk _).2 e] at h1
    obtain ⟨m, hm⟩ : ∃ m, n.toNat = m + 1 := ⟨n.toNat - 1, by have := h.1.2.1; omega⟩
    rw [hm] at h1
    have h2 : Po.pwF (0 : Fin (Q p)) (m + 1) = 0 := by show Po.pwF 0 m * 0 = (0 : Fin (Q p)); grind
    rw [h2, ← ph_zero hk, ← ph_one hk, ph_eq hk, Int.zero_emod, Int.emod_eq_of_lt (by omega) (by omega)] at h1
    omega
  have := ph_iv hk (b := rtw p n) h0 hz
  rw [← this]; grind
/-- The inverse root's power with half of the order is -1 as well. -/
theorem iv_minus {p n : Int} (h : LenOk p n) {b : Nat} (hn : n = ((2 ^ b : Nat) : Int)) (hb : b ≠ 0) : Po.pwF (ph p (iv p (rtw p n))) (2 ^ (b - 1)) = 0 - 1 := by
  have h1 := root_minus h hn hb
  have h2 : Po.pwF (ph p (rtw p n)) (2 ^ (b - 1)) * Po.pwF (ph p (iv p (rtw p n))) (2 ^ (b - 1)) = 1 := by rw [← Po.pwF_mulx, iv_root h, Po.pwF_one]
  rw [h1] at h2
  have : ∀ x : Fin (Q p), (0 - 1) * x = 1 → x = 0 - 1 := fun x e => by
    have e1 : x = (0 - 1) * ((0 - 1) * x) := by grind
    rw [e1, e]; grind
  exact this _ h2
/-- What stands where the values at the inverse powers are multiplied. -/
theorem trf_intL {p s : Int} {v R : List Int} (h : LenOk p v.length) (ht : Trf p (iv p (rtw p v.length)) v R) : updK (fun i => ml p (R.getD i 0) (ival p (tfac p s v.length i))) R 0 R.length = intL p s v := by
  have hk := h.1.1
  have hprim := len_prim h
  rw [show ((v.length : Int)).toNat = v.length from Int.toNat_natCast _] at hprim
  refine List.ext_getElem (by rw [updK_len, intL_len, ht.len]) fun i h1 h2 => ?_
  rw [updK_len] at h1
  simp only [updK, intL, List.getElem_map, List.getElem_range]
  rw [if_pos (by omega), getD_lt _ h1, ival_mul hk, ph_ival hk, ht.val i h1, ← Po.ev_inv hprim (iv_root h) _ (by rw [← ht.len]; exact h1)]
  rfl
theorem iv_emod {p : Int} (hk : known p = true) (s : Int) : iv p (s % p) = iv p s := by
  unfold iv pw
  rw [if_pos hk, if_pos hk, emod_pow]

set_option maxRecDepth 100000 in
set_option maxHeartbeats 8000000 in
theorem tInterpolate_w (p s : Int) [hU : U p] [hs : U s] (va : Value) (a : List Int) (w : World) (hla : Lst w va a) (hna : a.length ≤ 100000) :
    Calls Try.prog 47 #[.agg #[.int .u64 p], va, .int .u64 s] w (Pair w (resI p s a) (errD p s a.length)) := by
  obtain ⟨a0, c0, rfl⟩ := hla.shape
  have HL := Lib.hid hla
  clear hla
  by_cases he : errD p s a.length = 0
  · have hN : rootN p s a.length = rtw p a.length := by rw [rootN, if_pos he]
    have hlen := (errD_zero.1 he).1
    obtain ⟨b, hb, hb12⟩ := len_pow hlen
    have hk := hlen.1.1
    have hn4 := hlen.2
    have hnp := hlen.1.2.1
    have h4 : resI p s a = intL p s a := by rw [resI, if_pos he]
    have hm := fun hb0 => iv_minus hlen (b := b) hb hb0
    have hz := tfac_zero hk s a.length
    have hzs := fun i => tfac_succ hk s a.length i
    rw [iv_emod hk] at hzs
    rw [he, h4]
    have hnU : U (a.length : Int) := ⟨by omega, by omega⟩
    have hnw : IntKind.u64.wrap (a.length : Int) = (a.length : Int) := by rw [IntKind.wrap_u64]; omega
    have HK := Lib.hid (And.intro hlen (And.intro he (And.intro hN (And.intro (show a.length = 2 ^ b by omega) (And.intro hb12 (And.intro hm (And.intro hz hzs)))))))
    clear hlen he hN hb hb12 hm h4 hk hz hzs
    go_enter Try.func47, Try.ntmps47
    go_upto_region 5 with (go_at_call 85; refine (rootOf_u p s a.length (by omega) (by omega) _).mono ?_; rintro e w1 ⟨rfl, hb1⟩; rw [HK.out.2.1, HK.out.2.2.1]; have hf : w1.cell? ⟨w.heap.size, 0, none⟩ = some (.int .u64 p) := hb1.hold (by go_simp))
    have HB := Lib.hid (Below.next (Nat.le_refl _) (Below.made (Nat.le_refl _) (Below.refl _ _) _) hb1.b)
    have HA := Lib.hid (HL.out.hold HB.out)
    have hcell := fun (w' : World) (h : Below w1.heap.size w1 w') => Below.hold h hf
    have F := Below.refl w1.heap.size w1
    clear hb1
    go_cut [11] (fun v wx => ∃ g R, v = .slice (some ⟨g, 0, none⟩) a.length a.length ∧ Own wx w1.heap.size (.slice (some ⟨g, 0, none⟩) a.length a.length) R ∧ Trf p (iv p (rtw p a.length)) a R ∧ Below w1.heap.size w1 wx)
    case first =>
      clear hf
      go_region_held3 (fun w' => Below w1.heap.size w1 w')
        (repeat (first | assumption | refine Below.drew ?_ | refine Below.next (Nat.le_refl _) ?_ (by assumption)))
        (first
          | (go_at_call 87; refine (fInv_u p (rtw p a.length) _).mono ?_; rintro _ w2 ⟨rfl, hn2⟩; have hb2 := hn2.b)
          | (go_at_call 86; refine (transform_w p (iv p (rtw p a.length)) HK.out.1.1.1 _ a b _ (HA.out.hold (by assumption)) HK.out.2.2.2.1 HK.out.2.2.2.2.1 HK.out.2.2.2.2.2.1).mono ?_; rintro _ w3 ⟨g3, R, rfl, hown3, htrf, hb3⟩))
      all_goals
        go_wp2_with fail
        go_meet
        exact ⟨g3, R, rfl, hown3.low (by have := hb2.size; simpa using this), htrf, by assumption⟩
    case rest =>
      rename World => wx
      obtain ⟨g, R, rfl, hown, htrf, hbx⟩ := hcut
      have hfx := Below.hold hbx hf
      have hgx : w.heap.size < g := Nat.lt_of_lt_of_le (World.block_lt_of_cell? _ _ hf) (hown.row.lt g rfl).1
      have hend := trf_intL (s := s) HK.out.1 htrf
      have hRl := htrf.len
      rw [hRl] at hend
      obtain ⟨N, hN⟩ : ∃ N, N = a.length := ⟨_, rfl⟩
      have HM := Lib.hid (And.intro hend (And.intro hRl (And.intro (Below.next (Nat.le_refl _) HB.out hbx) hN)))
      have HO := Lib.hid hown
      have HX := Lib.hid hfx
      have k0 := fun q : NwAt wx => q.nw.hold hfx
      clear hcell F hf hown htrf hbx hend hRl hN hfx
      go_upto_region 6 with fail
      refine from_here ?_
      intro q
      refine wp_region_nw (by kernel_rfl) (by kernel_rfl) ?_
      repeat (go_big_quiet_step ((first | (go_at_call 87; exact nwAt_of (fInv_u _ _ _)))))
      refine wpQuiet_nil ?_
      clear q
      rintro _ ⟨q, rfl⟩
      have hp0 := k0 q
      have HO1 := Lib.hid (HO.out.hold q.nw.b)
      have HB1 := Lib.hid (Below.next (Nat.le_refl _) HM.out.2.2.1 q.nw.b)
      clear k0
      go_wp2
      go_loopw [12, 43] (fun fv iv wr => ∃ k : Nat, fv = .int .u64 (ival p (tfac p s a.length k)) ∧ iv = .int .i64 k ∧ k ≤ a.length ∧ wr.cell? ⟨w.heap.size, 0, none⟩ = some (.int .u64 p) ∧ Own wr w1.heap.size (.slice (some ⟨g, 0, none⟩) a.length a.length) (updK (fun i => ml p (R.getD i 0) (ival p (tfac p s a.length i))) R 0 k) ∧ Below w.heap.size w wr) (fun _ iv _ => a.length - (intOf iv).toNat)
      case atStart => exact ⟨0, by rw [HK.out.2.2.2.2.2.2.1], rfl, Nat.zero_le _, hp0, by rw [updK_zero]; exact HO1.out, HB1.out⟩
      case round =>
        obtain ⟨k, rfl, rfl, hk, hp, hown, hb⟩ := hrel
        have i0 : (0 : Int) ≤ (k : Int) := by omega
        clear hp0
        by_cases hlt : k < a.length
        · have hkR : k < R.length := by have := HM.out.2.1; omega
          have hc := hown.cell (i := k) (by rw [updK_len]; exact hkR)
          rw [updK_at0 hkR] at hc
          have hz := hown.thawed k
          have huR := HO.out.us _ (List.getElem_mem hkR)
          have hset := updK_set0 (f := fun i => ml p (R.getD i 0) (ival p (tfac p s a.length i))) (L := R) (k := k)
          rw [getD_lt _ hkR] at hset
          have hts := HK.out.2.2.2.2.2.2.2 k
          obtain ⟨x, hx⟩ : ∃ x, x = R[k] := ⟨_, rfl⟩
          rw [← hx] at hc huR hset
          obtain ⟨y, hy⟩ : ∃ y, y = ival p (tfac p s a.length k) := ⟨_, rfl⟩
          have hyU : U y := by rw [hy]; infer_instance
          rw [← hy] at hset hts ⊢
          have i1 : (k : Int) < (a.length : Int) := by omega
          have HV := Lib.hid (And.intro hown (And.intro hb (And.intro hset hts)))
          clear hown hb hset hts hx hy hkR
          go_upto_region 11 with (go_at_call 38; refine (fMul_u p _ _ _).mono ?_; rintro _ w4 ⟨rfl, hb4⟩; have hc4 := hb4.hold hc; have hz4 := (hb4.f _).trans hz; have hp4 := hb4.hold hp; have HB4 := Lib.hid hb4.b; clear hb4)
          have hs := (HV.out.1.hold HB4.out).set k (ml p x y)
          have hbs := Below.wrote (Below.next (Nat.le_refl _) HV.out.2.1 HB4.out) (by have := HB.out.size; exact this) (Nat.le_trans HV.out.2.1.size HB4.out.size) (HV.out.1.hold HB4.out) hs.2
          rw [HV.out.2.2.1] at hs
          have HS := Lib.hid (And.intro hs.1 hbs)
          have hp5 : (w4.setCell ⟨g, k, none⟩ (.int .u64 (ml p x y))).cell? ⟨w.heap.size, 0, none⟩ = some (.int .u64 p) := (World.cell?_setCell_far _ _ _ _ (by show g ≠ w.heap.size; omega)).trans hp4
          clear hs hbs hc4 hz4 hc hz hp hp4
          go_wp2_with (go_at_call 38; refine (fMul_u p _ _ _).mono ?_; rintro _ w5 ⟨rfl, hb5⟩; have hp6 := hb5.hold hp5)
          exact ⟨⟨k + 1, by rw [HV.out.2.2.2], by go_num, by omega, hp6, HS.out.1.hold hb5.b, Below.next (Nat.le_refl _) HS.out.2 hb5.b⟩, by simp [intOf]; omega⟩
        · obtain rfl : k = a.length := by omega
          rw [HM.out.1] at hown
          have HV := Lib.hid (And.intro hown hb)
          clear hown hb
          go_wp2
          refine bodyPost_ret (results_tmp2 rfl _ _ _) rfl ?_
          exact ⟨_, rfl, HV.out.1.low HB.out.size, HV.out.2⟩
  · have h2 : resI p s a = [] := by rw [resI, if_neg he]
    have hN : rootN p s a.length = 0 := by rw [rootN, if_neg he]
    rw [h2]
    obtain ⟨er, her⟩ : ∃ er, er = errD p s a.length := ⟨_, rfl⟩
    rw [← her] at he ⊢
    have hne : (er != 0) = true := by simpa using he
    have HK := Lib.hid (And.intro hN her)
    have i1 : (a.length : Int) ≤ 100000 := by omega
    clear h2 her hN
    go_enter Try.func47, Try.ntmps47
    go_wp2_with (go_at_call 85; refine (rootOf_u p s a.length (by omega) (by omega) _).mono ?_; rintro e w1 ⟨rfl, hb1⟩; rw [← HK.out.2, HK.out.1])
    refine bodyPost_ret (results_tmp2 rfl _ _ _) rfl ?_
    exact ⟨_, rfl, Own.nil _ _, Below.next (Nat.le_refl _) (Below.made (Nat.le_refl _) (Below.refl _ _) _) hb1.b⟩

set_option maxHeartbeats 2000000 in
theorem tInverse_w (p : Int) [hU : U p] (va : Value) (a : List Int) (w : World) (hla : Lst w va a) (hna : a.length ≤ 100000) :
    Calls Try.prog 52 #[.agg #[.int .u64 p], va] w (Pair w (resI p 1 a) (errD p 1 a.length)) := by
  obtain ⟨a0, c0, rfl⟩ := hla.shape
  have HL := Lib.hid hla
  clear hla
  go_enter Try.func52, Try.ntmps52
  go_upto_region 1 with fail
  refine name_world ?_
  intro W hW
  have hf : W.cell? ⟨w.heap.size, 0, none⟩ = some (.int .u64 p) := by rw [hW]; go_simp
  have hB0 : Below w.heap.size w W := by rw [hW]; exact Below.made (Nat.le_refl _) (Below.refl _ _) _
  have HB := Lib.hid hB0
  clear hW hB0
  go_wp2_with (go_at_call 47; refine (tInterpolate_w p 1 _ a _ (HL.out.hold HB.out) hna).mono ?_; rintro _ w1 ⟨v1, rfl, hown, hb1⟩)
  refine bodyPost_ret (results_tmp2 rfl _ _ _) rfl ?_
  exact ⟨_, rfl, hown.low HB.out.size, Below.next (Nat.le_refl _) HB.out hb1⟩
end Go.Proofs.Ytdcdaclkeocfpaa

namespace Go.Proofs.Ytdcdaclkeocfpaa
open Go.RowKit Go.BigFrame
open Classical

theorem errE_ok {p : Int} {a : List Int} {n : Int} (hk : known p = true) (hl : LenOk p n) (ha : a.length ≤ 8192) : errE p a 1 n = 0 := by
  have h1 : errD p 1 n = 0 := errD_ok hl (one_mod hk)
  rw [errE, if_pos h1, if_pos ha]
/-- The product out of the products of the values, element by element. -/
theorem mul_vals {p : Int} {n : Nat} {a b : List Int} (hk : known p = true) (hl : LenOk p n) (ha : a.length ≠ 0) (hb : b.length ≠ 0) (hn : a.length + b.length - 1 ≤ n) :
    intL p 1 (updK (fun i => ml p ((evL p a 1 n).getD i 0) ((evL p b 1 n).getD i 0)) (evL p a 1 n) 0 n) = mulL p a b ++ List.replicate (n - (a.length + b.length - 1)) 0 := by
  refine mul_by_values (errD_ok hl (one_mod hk)) ha hb hn (by rw [updK_len, evL_len]) fun k g => ?_
  rw [updK_len, evL_len] at g
  simp only [updK, List.getElem_map, List.getElem_range]
  rw [if_pos (by omega), getD_lt _ (by rw [evL_len]; exact g), getD_lt _ (by rw [evL_len]; exact g), ival_mul hk]
  simp only [evL, List.getElem_map, List.getElem_range, ph_ival hk]

set_option maxRecDepth 100000 in
set_option maxHeartbeats 8000000 in
theorem tMultiply_w (p : Int) [hU : U p] (va vb : Value) (a b : List Int) (w : World) (hla : Lst w va a) (hlb : Lst w vb b) (hna : a.length ≤ 1000) (hnb : b.length ≤ 1000) :
    Calls Try.prog 53 #[.agg #[.int .u64 p], va, vb] w (Pair w (resM p a b) (errM p a b)) := by
  obtain ⟨a0, c0, rfl⟩ := hla.shape
  obtain ⟨b0, d0, rfl⟩ := hlb.shape
  have HL := Lib.hid (And.intro hla hlb)
  clear hla hlb
  by_cases hk : known p = true
  · by_cases hz : a.length = 0 ∨ b.length = 0
    · have h1 : errM p a b = 0 := by rw [errM, if_pos hk, if_pos (by omega)]
      have h2 : resM p a b = [] := by rw [resM, if_neg (by omega)]
      rw [h1, h2]
      have HK := Lib.hid hk
      clear h1 h2 hk
      by_cases ha : a.length = 0
      · have i1 : (a.length : Int) = 0 := by omega
        have i2 : ((a.length : Int) == 0) = true := by simpa using i1
        go_enter Try.func53, Try.ntmps53
        go_wp2_with (go_at_call 75; refine (valid_any _ _).mono ?_; rintro e w1 ⟨rfl, hb1⟩; rw [HK.out])
        refine bodyPost_ret (results_tmp2 rfl _ _ _) rfl ?_
        exact ⟨_, rfl, Own.nil _ _, Below.next (Nat.le_refl _) (Below.made (Nat.le_refl _) (Below.refl _ _) _) hb1.b⟩
      · have i1 : ¬ (a.length : Int) = 0 := by omega
        have i2 : ((a.length : Int) == 0) = false := by simpa using i1
        have i3 : (b.length : Int) = 0 := by omega
        have i4 : ((b.length : Int) == 0) = true := by simpa using i3
        go_enter Try.func53, Try.ntmps53
        go_wp2_with (go_at_call 75; refine (valid_any _ _).mono ?_; rintro e w1 ⟨rfl, hb1⟩; rw [HK.out])
        refine bodyPost_ret (results_tmp2 rfl _ _ _) rfl ?_
        exact ⟨_, rfl, Own.nil _ _, Below.next (Nat.le_refl _) (Below.made (Nat.le_refl _) (Below.refl _ _) _) hb1.b⟩
    · have ha : a.length ≠ 0 := fun h => hz (.inl h)
      have hb : b.length ≠ 0 := fun h => hz (.inr h)
      obtain ⟨l, hl⟩ : ∃ l, l = a.length + b.length - 1 := ⟨_, rfl⟩
      have i1 : ¬ (a.length : Int) = 0 := by omega
      have i2 : ((a.length : Int) == 0) = false := by simpa using i1
      have i3 : ¬ (b.length : Int) = 0 := by omega
      have i4 : ((b.length : Int) == 0) = false := by simpa using i3
      have i5 : (a.length : Int) + (b.length : Int) - 1 = (l : Int) := by omega
      have i6 : (a.length : Int) ≤ 1000 := by omega
      have i7 : (b.length : Int) ≤ 1000 := by omega
      have i8 : (1 : Int) ≤ (l : Int) := by omega
      have i9 : (l : Int) ≤ 2000 := by omega
      obtain ⟨n, hn⟩ : ∃ n, n = fitsN l := ⟨_, rfl⟩
      have hnl : l ≤ n := by rw [hn]; exact fits_le l
      have hn16 : n ≤ 65536 := by
        rw [hn, ← fits_len (by omega) (by omega)]
        have h := Nat.pow_le_pow_right (n := 2) (by decide) (bitLen_16 (x := l - 1) (by omega))
        simpa using h
      have i10 : (1 : Int) ≤ (n : Int) := by omega
      have i11 : (n : Int) ≤ 65536 := by omega
      by_cases hlen : LenOk p n
      · have h1 : errM p a b = 0 := by rw [errM, if_pos hk, if_pos (.inr (.inr (by rw [← hl, ← hn]; exact hlen)))]
        have h2 : resM p a b = mulL p a b := by rw [resM, if_pos ⟨h1, ha, hb⟩]
        have ea : errE p a 1 n = 0 := errE_ok hk hlen (by omega)
        have eb : errE p b 1 n = 0 := errE_ok hk hlen (by omega)
        have ra : resE p a 1 n = evL p a 1 n := by rw [resE, if_pos ea]
        have rb : resE p b 1 n = evL p b 1 n := by rw [resE, if_pos eb]
        have hmv := mul_vals hk hlen ha hb (by rw [← hl]; exact hnl)
        rw [h1, h2]
        have HK := Lib.hid (And.intro hk (And.intro hn (And.intro ea (And.intro eb (And.intro ra (And.intro rb (And.intro hmv (And.intro hlen hl))))))))
        clear h1 h2 hk hn ea eb ra rb hmv hlen hl ha hb hz
        go_enter Try.func53, Try.ntmps53
        go_upto_region 3 with (go_at_call 75; refine (valid_any _ _).mono ?_; rintro e w1 ⟨rfl, hb1⟩; rw [HK.out.1]; have hf : w1.cell? ⟨w.heap.size, 0, none⟩ = some (.int .u64 p) := hb1.hold (by go_simp))
        have HB := Lib.hid (Below.next (Nat.le_refl _) (Below.made (Nat.le_refl _) (Below.refl _ _) _) hb1.b)
        clear hb1
        go_upto_region 7 with (go_at_call 95; refine (power_u l (by omega) (by omega) _).mono ?_; rintro e w2 ⟨rfl, hb2⟩; rw [← HK.out.2.1]; have hf2 := hb2.hold hf)
        replace HB := Lib.hid (Below.next (Nat.le_refl _) HB.out hb2.b)
        have hbw : w.heap.size < w2.heap.size := World.block_lt_of_cell? _ _ hf2
        have HBs := Lib.hid HB.out.size
        clear hb2 hf
        go_upto_region 10 with (go_at_call 94; refine (tEvaluate_w p 1 n _ a _ (HL.out.1.hold HB.out) (by omega) (by omega) (by omega)).mono ?_; rintro _ w3 ⟨v3, rfl, hown3, hb3⟩; rw [HK.out.2.2.1]; rw [HK.out.2.2.2.2.1] at hown3; have hf3 := Below.hold hb3 hf2)
        replace HB := Lib.hid (Below.next (Nat.le_refl _) HB.out hb3)
        have HO3 := Lib.hid hown3
        clear hb3 hf2 hown3
        go_upto_region 11 with (go_at_call 94; refine (tEvaluate_w p 1 n _ b _ (HL.out.2.hold HB.out) (by omega) (by omega) (by omega)).mono ?_; rintro _ w4 ⟨v4, rfl, hown4, hb4⟩; rw [HK.out.2.2.2.1]; rw [HK.out.2.2.2.2.2.1] at hown4; have hf4 := Below.hold hb4 hf3)
        replace HB := Lib.hid (Below.next (Nat.le_refl _) HB.out hb4)
        have h3 := HO3.out.hold hb4
        obtain ⟨EA, hEA⟩ : ∃ E, E = evL p a 1 n := ⟨_, rfl⟩
        obtain ⟨EB, hEB⟩ : ∃ E, E = evL p b 1 n := ⟨_, rfl⟩
        have hla : EA.length = n := by rw [hEA, evL_len]
        have hlb : EB.length = n := by rw [hEB, evL_len]
        rw [← hEA] at h3
        rw [← hEB] at hown4
        obtain ⟨g3, c3, rfl⟩ : ∃ g c, v3 = .slice (some ⟨g, 0, none⟩) n c := by
          rcases h3.cases with ⟨_, e⟩ | ⟨g, c, e, _⟩
          · rw [e] at hla; simp at hla; omega
          · rw [hla] at e; exact ⟨g, c, e⟩
        obtain ⟨g4, c4, rfl⟩ : ∃ g c, v4 = .slice (some ⟨g, 0, none⟩) n c := by
          rcases hown4.cases with ⟨_, e⟩ | ⟨g, c, e, _⟩
          · rw [e] at hlb; simp at hlb; omega
          · rw [hlb] at e; exact ⟨g, c, e⟩
        have hg3 := HO3.out.row.lt g3 rfl
        have hg4 := (hown4.row.lt g4 rfl).1
        obtain ⟨F, hF⟩ : ∃ F : Nat → Int, F = fun i => ml p (EA.getD i 0) (EB.getD i 0) := ⟨_, rfl⟩
        have hmv := HK.out.2.2.2.2.2.2.1
        rw [← hEA, ← hEB, ← hF] at hmv
        have HE := Lib.hid (And.intro hmv (And.intro hF (And.intro hla hlb)))
        have HO := Lib.hid (And.intro h3 (And.intro hown4.lst hf4))
        have HG := Lib.hid (show g4 ≠ g3 by omega)
        have HG3 := Lib.hid (show g3 ≠ w.heap.size by omega)
        clear hmv hF hla hlb h3 hown4 hf4 hEA hEB hf3 hg3 hg4 HO3 hb4
        go_wp2
        go_loopw [55] (fun iv wr => ∃ k : Nat, iv = .int .i64 k ∧ k ≤ n ∧ Own wr w2.heap.size (.slice (some ⟨g3, 0, none⟩) n c3) (updK F EA 0 k) ∧ w4.grownBy wr (some g3)) (fun iv _ => n - (intOf iv).toNat)
        case atStart => exact ⟨0, rfl, Nat.zero_le _, by rw [updK_zero]; exact HO.out.1, World.grownBy.refl _ _⟩
        case round =>
          obtain ⟨k, rfl, hk, hown, hgr⟩ := hrel
          have i0 : (0 : Int) ≤ (k : Int) := by omega
          have hp := grown_cell hgr HO.out.2.2 (by intro e; cases e; exact HG3.out rfl)
          by_cases hlt : k < n
          · have hkA : k < EA.length := by rw [HE.out.2.2.1]; exact hlt
            have hkB : k < EB.length := by rw [HE.out.2.2.2]; exact hlt
            have hc1 : wr.cell? ⟨g3, k, none⟩ = some (.int .u64 EA[k]) := by rw [hown.cell (by rw [updK_len]; exact hkA), updK_at0 hkA]
            obtain ⟨b1, o1, d1, e1, hc2⟩ := (HO.out.2.1.kept hgr (by intro _ e; cases e; exact HG.out rfl)).cells k hkB
            rw [HE.out.2.2.2] at e1
            obtain ⟨⟨rfl, rfl⟩, rfl⟩ : (g4 = b1 ∧ 0 = o1) ∧ c4 = d1 := by simp at e1; exact e1
            clear e1
            have hz := hown.thawed k
            have hux := HO.out.1.us EA[k] (List.getElem_mem hkA)
            have huy := HO.out.2.1.us EB[k] (List.getElem_mem hkB)
            have hset := updK_set0 (f := F) (L := EA) (k := k)
            have hFk : F k = ml p EA[k] EB[k] := by rw [HE.out.2.1]; simp only []; rw [getD_lt _ hkA, getD_lt _ hkB]
            rw [hFk] at hset
            obtain ⟨x, hx⟩ : ∃ x, x = EA[k] := ⟨_, rfl⟩
            obtain ⟨y, hy⟩ : ∃ y, y = EB[k] := ⟨_, rfl⟩
            rw [← hx] at hux hc1 hset
            rw [← hy] at huy hc2 hset
            rw [Nat.zero_add] at hc2
            have j1 : (k : Int) < (n : Int) := by omega
            have HV := Lib.hid (And.intro hown (And.intro hgr hset))
            clear hown hgr hset hx hy hFk hkA hkB hlt
            go_wp2_with fail
            have k0 := fun q : NwAt wr => q.nw.hold hp
            have k1 := fun q : NwAt wr => q.nw.hold hc1
            have k3 := fun q : NwAt wr => q.nw.holdf hz
            refine from_here ?_
            intro q
            refine wp_region_nwt 9 (by kernel_rfl) (by kernel_rfl) ?_
            simp only [List.take_succ_cons, List.take_zero, List.drop_succ_cons, List.drop_zero]
            repeat (go_big_quiet_step ((first | (go_at_call 38; exact nwAt_of (fMul_u _ _ _ _)))))
            refine wpQuiet_nil ?_
            clear q
            rintro _ ⟨q, rfl⟩
            have m1 := k1 q
            have m3 := k3 q
            clear k0 k1 k3
            have hs := (HV.out.1.hold q.nw.b).set k (ml p x y)
            have HS := Lib.hid (And.intro hs.1 (grown_trans (grown_next HV.out.2.1 q.nw.b) hs.2))
            clear hs
            go_wp2
            exact ⟨⟨k + 1, by go_num, by omega, by rw [← HV.out.2.2]; exact HS.out.1, HS.out.2⟩, by simp [intOf]; omega⟩
          · obtain rfl : k = n := by omega
            obtain ⟨V, hV⟩ : ∃ V, V = updK F EA 0 k := ⟨_, rfl⟩
            have hVl : V.length = k := by rw [hV, updK_len, HE.out.2.2.1]
            have hVi := HE.out.1
            rw [← hV] at hown hVi
            have hml : (mulL p a b).length = l := by rw [mulL_len]; exact HK.out.2.2.2.2.2.2.2.2.symm
            have eD : errD p 1 V.length = 0 := by rw [hVl]; exact errD_ok HK.out.2.2.2.2.2.2.2.1 (one_mod HK.out.1)
            have eR : resI p 1 V = mulL p a b ++ List.replicate (k - (a.length + b.length - 1)) 0 := by rw [resI, if_pos eD, hVi]
            have hBw := Below.wrote HB.out HBs.out HB.out.size HO.out.1 hgr
            have HV := Lib.hid (And.intro hown (And.intro hBw (And.intro eD (And.intro eR (And.intro hVl hml)))))
            clear hown hgr hV hVi eD eR hBw hVl hml
            go_upto_region 17 with (go_at_call 52; refine (tInverse_w p _ V _ HV.out.1.lst (by have := HV.out.2.2.2.2.1; omega)).mono ?_; rintro _ w5 ⟨v5, rfl, hown5, hb5⟩; rw [HV.out.2.2.1]; rw [HV.out.2.2.2.1] at hown5)
            obtain ⟨g5, c5, rfl, hlc⟩ : ∃ g c, v5 = .slice (some ⟨g, 0, none⟩) (mulL p a b ++ List.replicate (k - (a.length + b.length - 1)) 0).length c ∧ (mulL p a b ++ List.replicate (k - (a.length + b.length - 1)) 0).length ≤ c := by
              rcases hown5.cases with ⟨_, e⟩ | ⟨g, c, e, _, _, hc, _⟩
              · have h := congrArg List.length e
                rw [List.length_append, HV.out.2.2.2.2.2] at h
                simp at h; omega
              · exact ⟨g, c, e, hc⟩
            have ht := hown5.take (k := l) (by rw [List.length_append, HV.out.2.2.2.2.2]; omega)
            rw [List.take_left' HV.out.2.2.2.2.2] at ht
            have hl5 : l ≤ (mulL p a b ++ List.replicate (k - (a.length + b.length - 1)) 0).length := by rw [List.length_append, HV.out.2.2.2.2.2]; omega
            have i12 : (l : Int) ≤ (c5 : Int) := by omega
            have i13 : (0 : Int) ≤ (l : Int) := by omega
            obtain ⟨m5, hm5⟩ : ∃ m5, m5 = (mulL p a b ++ List.replicate (k - (a.length + b.length - 1)) 0).length := ⟨_, rfl⟩
            rw [← hm5] at hlc hl5 ⊢
            have HT := Lib.hid (And.intro ht hb5)
            clear ht hb5 hown5 hm5
            go_wp2
            refine bodyPost_ret (results_tmp2 rfl _ _ _) rfl ?_
            exact ⟨_, rfl, HT.out.1.low HV.out.2.1.size, Below.next (Nat.le_refl _) HV.out.2.1 HT.out.2⟩
      · have h1 : errM p a b = 3 := by rw [errM, if_pos hk, if_neg (by rw [← hl, ← hn]; intro h; rcases h with h | h | h; exact ha h; exact hb h; exact hlen h)]
        have h2 : resM p a b = [] := by rw [resM, if_neg (by rw [h1]; omega)]
        have e1 : errE p a 1 n = 1 := by
          have : errD p 1 n = 1 := by rw [errD, if_pos hk, if_neg (fun h => hlen h.1)]
          rw [errE, if_neg (by rw [this]; decide), this]
        rw [h1, h2]
        have HK := Lib.hid (And.intro hk (And.intro hn e1))
        clear h1 h2 hk hn e1 hlen hl ha hb hz
        go_enter Try.func53, Try.ntmps53
        go_upto_region 3 with (go_at_call 75; refine (valid_any _ _).mono ?_; rintro e w1 ⟨rfl, hb1⟩; rw [HK.out.1]; have hf : w1.cell? ⟨w.heap.size, 0, none⟩ = some (.int .u64 p) := hb1.hold (by go_simp))
        have HB := Lib.hid (Below.next (Nat.le_refl _) (Below.made (Nat.le_refl _) (Below.refl _ _) _) hb1.b)
        clear hb1
        go_upto_region 7 with (go_at_call 95; refine (power_u l (by omega) (by omega) _).mono ?_; rintro e w2 ⟨rfl, hb2⟩; rw [← HK.out.2.1]; have hf2 := hb2.hold hf)
        replace HB := Lib.hid (Below.next (Nat.le_refl _) HB.out hb2.b)
        clear hb2
        go_wp2_with (go_at_call 94; refine (tEvaluate_w p 1 n _ a _ (HL.out.1.hold HB.out) (by omega) (by omega) (by omega)).mono ?_; rintro _ w3 ⟨v3, rfl, hown3, hb3⟩; rw [HK.out.2.2])
        refine bodyPost_ret (results_tmp2 rfl _ _ _) rfl ?_
        exact ⟨_, rfl, Own.nil _ _, Below.next (Nat.le_refl _) HB.out hb3⟩
  · have hk : known p = false := by simpa using hk
    have h1 : errM p a b = 7 := by rw [errM, if_neg (by rw [hk]; decide)]
    have h2 : resM p a b = [] := by rw [resM, if_neg (by rw [h1]; omega)]
    rw [h1, h2]
    have HK := Lib.hid hk
    clear h1 h2 hk
    go_enter Try.func53, Try.ntmps53
    go_wp2_with (go_at_call 75; refine (valid_any _ _).mono ?_; rintro e w1 ⟨rfl, hb1⟩; rw [HK.out])
    refine bodyPost_ret (results_tmp2 rfl _ _ _) rfl ?_
    exact ⟨_, rfl, Own.nil _ _, Below.next (Nat.le_refl _) (Below.made (Nat.le_refl _) (Below.refl _ _) _) hb1.b⟩
end Go.Proofs.Ytdcdaclkeocfpaa

namespace Go.Proofs.Ytdcdaclkeocfpaa
open Go.RowKit
open Classical

theorem tDomain_p (p s n : Int) [_hU : U p] [hU : U s] (hn0 : -9223372036854775808 ≤ n) (hn1 : n ≤ 9223372036854775807) (w : World) :
    Calls Try.prog 46 #[.agg #[.int .u64 p], .int .u64 s, .int .i64 n] w (PairL w (resD p s n) (errD p s n)) :=
  (tDomain_w p s n hn0 hn1 w).mono pairL_of

theorem tEvaluate_p (p s n : Int) [_hU : U p] [hU : U s] (va : Value) (a : List Int) (w : World) (hla : Lst w va a) (hna : a.length ≤ 9000) (hn0 : -9223372036854775808 ≤ n) (hn1 : n ≤ 9223372036854775807) :
    Calls Try.prog 94 #[.agg #[.int .u64 p], va, .int .u64 s, .int .i64 n] w (PairL w (resE p a s n) (errE p a s n)) :=
  (tEvaluate_w p s n va a w hla (by omega) hn0 hn1).mono pairL_of

theorem tForward_p (p : Int) [_hU : U p] (va : Value) (a : List Int) (w : World) (hla : Lst w va a) (hna : a.length ≤ 9000) :
    Calls Try.prog 51 #[.agg #[.int .u64 p], va] w (PairL w (resE p a 1 a.length) (errE p a 1 a.length)) :=
  (tForward_w p va a w hla (by omega)).mono pairL_of

theorem tInterpolate_p (p s : Int) [hU : U p] [hs : U s] (va : Value) (a : List Int) (w : World) (hla : Lst w va a) (hna : a.length ≤ 9000) :
    Calls Try.prog 47 #[.agg #[.int .u64 p], va, .int .u64 s] w (PairL w (resI p s a) (errD p s a.length)) :=
  (tInterpolate_w p s va a w hla (by omega)).mono pairL_of

theorem tInverse_p (p : Int) [hU : U p] (va : Value) (a : List Int) (w : World) (hla : Lst w va a) (hna : a.length ≤ 9000) :
    Calls Try.prog 52 #[.agg #[.int .u64 p], va] w (PairL w (resI p 1 a) (errD p 1 a.length)) :=
  (tInverse_w p va a w hla (by omega)).mono pairL_of

theorem tMultiply_p (p : Int) [hU : U p] (va vb : Value) (a b : List Int) (w : World) (hla : Lst w va a) (hlb : Lst w vb b) (hna : a.length ≤ 1000) (hnb : b.length ≤ 1000) :
    Calls Try.prog 53 #[.agg #[.int .u64 p], va, vb] w (PairL w (resM p a b) (errM p a b)) :=
  (tMultiply_w p va vb a b w hla hlb hna hnb).mono pairL_of
end Go.Proofs.Ytdcdaclkeocfpaa
