/- The walk of package transform's reversed. The walk of package transform's join. -/
import Derived.Test.YtnmbggdfcgbniaaTPA
import Derived.Test.YtnmbggdfcgbniaaFieldO
namespace Go.Proofs.Ytnmbggdfcgbniaa
open Go.RowKit Go.BigFrame
open Classical

/-- The elements in the order of their turned indices, of the first k rounds. -/
def turnK (b : Nat) (l : List Int) (k : Nat) : List Int := (List.range l.length).map fun j => if rev b j < k then l.getD (rev b j) 0 else 0
def turnL (b : Nat) (l : List Int) : List Int := (List.range l.length).map fun j => l.getD (rev b j) 0
theorem turnK_len (b : Nat) (l : List Int) (k : Nat) : (turnK b l k).length = l.length := by simp [turnK]
theorem turnL_len (b : Nat) (l : List Int) : (turnL b l).length = l.length := by simp [turnL]
theorem turnK_zero (b : Nat) (l : List Int) : turnK b l 0 = List.replicate l.length 0 := by
  refine List.ext_getElem (by simp [turnK]) fun i h1 h2 => ?_
  simp [turnK]
theorem turnK_set {b : Nat} {l : List Int} (hl : l.length = 2 ^ b) {k : Nat} (hk : k < l.length) : (turnK b l k).set (rev b k) l[k] = turnK b l (k + 1) := by
  refine List.ext_getElem (by simp [turnK_len]) fun i h1 h2 => ?_
  rw [turnK_len] at h2
  rw [List.getElem_set]
  simp only [turnK, List.getElem_map, List.getElem_range]
  by_cases hi : rev b k = i
  · subst hi
    rw [if_pos rfl, rev_rev b (by omega), if_pos (by omega), getD_lt _ hk]
  · rw [if_neg hi]
    have hne : rev b i ≠ k := fun e => hi (by rw [← e, rev_rev b (by omega)])
    by_cases h3 : rev b i < k
    · rw [if_pos h3, if_pos (by omega)]
    · rw [if_neg h3, if_neg (by omega)]
theorem turnK_end {b : Nat} {l : List Int} (hl : l.length = 2 ^ b) : turnK b l l.length = turnL b l := by
  refine List.ext_getElem (by simp [turnK, turnL]) fun i h1 h2 => ?_
  simp only [turnK, turnL, List.getElem_map, List.getElem_range]
  rw [if_pos (by have := rev_lt b i; omega)]
theorem bitLen_two (b : Nat) (hb : b ≤ 12) : Lib.bitLen (2 ^ b - 1) = b := by
  have hp : (2 : Nat) ^ b ≤ 2 ^ 12 := Nat.pow_le_pow_right (by decide) hb
  have hq : 0 < 2 ^ b := Nat.two_pow_pos b
  rw [bitLen_log _ (by omega)]
  cases b with
  | zero => rfl
  | succ b =>
    have hq : 0 < 2 ^ b := Nat.two_pow_pos b
    have h1 : 2 ^ (b + 1) = 2 * 2 ^ b := by rw [Nat.pow_succ]; omega
    rw [if_neg (by omega)]
    congr 1
    exact (Nat.log2_eq_iff (by omega)).2 ⟨by omega, by omega⟩

set_option maxHeartbeats 4000000 in
theorem reversed_u (v : Value) (l : List Int) (b : Nat) (w : World) (hl : Lst w v l) (hlb : l.length = 2 ^ b) (hb : b ≤ 12) :
    Calls Try.prog 46 #[v] w fun e w' => ∃ g, e = .returned (.slice (some ⟨g, 0, none⟩) l.length l.length) ∧ Own w' w.heap.size (.slice (some ⟨g, 0, none⟩) l.length l.length) (turnL b l) ∧ Below w.heap.size w w' := by
  obtain ⟨a0, c0, rfl⟩ := hl.shape
  have HL := Lib.hid hl
  have hp : (2 : Nat) ^ b ≤ 2 ^ 12 := Nat.pow_le_pow_right (by decide) hb
  have hq : 0 < 2 ^ b := Nat.two_pow_pos b
  have hn1 : (1 : Int) ≤ (l.length : Int) := by omega
  have hn2 : (l.length : Int) ≤ 4096 := by omega
  have hbl : Lib.bitLen ((l.length : Int) - 1).toNat = b := by rw [show ((l.length : Int) - 1).toNat = 2 ^ b - 1 by omega, bitLen_two b hb]
  obtain ⟨u, hu⟩ : ∃ u : Nat, u = 64 - b := ⟨_, rfl⟩
  have hu2 : (64 : Int) - (b : Int) = (u : Int) := by omega
  have hu3 : (u : Int) ≤ 64 := by omega
  have hsh : ∀ k, k < l.length → rvF (k : Int) / 2 ^ u = (rev b k : Int) := fun k hk => by
    rw [hu]
    exact rvF_shr hb (by omega)
  have HK := Lib.hid (And.intro hlb (And.intro hbl (And.intro hu2 hsh)))
  clear hl hlb hp hq hbl hu hu2 hsh
  go_enter Try.func46, Try.ntmps46
  go_upto_region 2 with (at_make; refine make_zeros rfl (.tmp 8) (.tmp 8) rfl w.heap.size l.length rfl rfl (by omega) (Nat.le_refl _) ?_; intro v3 w3 hown3 hv3 hb3; subst hv3)
  obtain ⟨g, hg⟩ : ∃ g, g = w.heap.size := ⟨_, rfl⟩
  rw [← hg] at hown3 ⊢
  have HO := Lib.hid (And.intro hown3 (And.intro hb3 hg))
  clear hown3 hb3 hg
  go_upto_region 3 with (go_at_call 51; refine (len64_small _ _ (by omega) (by omega)).mono ?_; rintro e w1 ⟨rfl, rfl⟩; rw [HK.out.2.1])
  rw [HK.out.2.2.1]
  go_wp2
  go_loopw [18] (fun iv wr => ∃ k : Nat, iv = .int .i64 k ∧ k ≤ l.length ∧ Own wr g (.slice (some ⟨g, 0, none⟩) l.length l.length) (turnK b l k) ∧ Below w.heap.size w wr) (fun iv _ => l.length - (intOf iv).toNat)
  case atStart => exact ⟨0, rfl, Nat.zero_le _, by rw [turnK_zero]; exact HO.out.1, HO.out.2.1⟩
  case round =>
    obtain ⟨k, rfl, hk, hown, hb⟩ := hrel
    have i0 : (0 : Int) ≤ (k : Int) := by omega
    by_cases hlt : k < l.length
    · obtain ⟨bb, ob, cb, e, hc⟩ := (HL.out.hold hb).cells k hlt
      obtain ⟨rfl, rfl⟩ : a0 = some ⟨bb, ob, none⟩ ∧ c0 = cb := by simp at e; exact e
      clear e
      have hux := HL.out.us l[k] (List.getElem_mem hlt)
      have hset := turnK_set HK.out.1 hlt
      have hj := rev_lt b k
      have hsk := HK.out.2.2.2 k hlt
      obtain ⟨j, hjr⟩ : ∃ j, j = rev b k := ⟨_, rfl⟩
      rw [← hjr] at hset hj hsk
      have hz := hown.thawed j
      have hjl : j < l.length := by rw [HK.out.1]; exact hj
      obtain ⟨x, hx⟩ : ∃ x, x = l[k] := ⟨_, rfl⟩
      rw [← hx] at hc hux hset
      have i1 : (k : Int) < (l.length : Int) := by omega
      have i2 : (0 : Int) ≤ (j : Int) := by omega
      have i3 : (j : Int) < (l.length : Int) := by omega
      have hsk2 : Int.toNat (rvF (k : Int) / 2 ^ u) = j := by rw [hsk]; simp
      have hs := hown.set j x
      have hcj := hown.cell (i := j) (by rw [turnK_len]; exact hjl)
      have HV := Lib.hid (And.intro hs.1 (And.intro (Below.wrote hb (Nat.le_of_eq HO.out.2.2.symm) hb.size hown hs.2) hset))
      have HJ := Lib.hid (And.intro hjr hsk)
      clear hs hown hb hset hx hjr hj hlt
      go_wp2_with (go_at_call 55; refine (reverse_u _ _).mono ?_; rintro e w1 ⟨rfl, rfl⟩)
      exact ⟨⟨k + 1, by go_num, by omega, by rw [← HV.out.2.2]; exact HV.out.1, HV.out.2.1⟩, by simp [intOf]; omega⟩
    · obtain rfl : k = l.length := by omega
      rw [turnK_end HK.out.1] at hown
      have HV := Lib.hid (And.intro hown hb)
      clear hown hb
      go_wp2
      go_ret
      exact ⟨_, rfl, HV.out.1.low (Nat.le_of_eq HO.out.2.2.symm), HV.out.2⟩
end Go.Proofs.Ytnmbggdfcgbniaa

namespace Go.Proofs.Ytnmbggdfcgbniaa
open Go.RowKit Go.BigFrame
open Classical

/-- What join leaves at a place, after k rounds. -/
def joinF (p : Int) (L P : List Int) (o h t k : Nat) (i : Nat) : Int :=
  if o ≤ i ∧ i < o + k then ad p (L.getD i 0) (ml p (L.getD (i + h) 0) (P.getD ((i - o) * t) 0))
  else if o + h ≤ i ∧ i < o + h + k then sb p (L.getD (i - h) 0) (ml p (L.getD i 0) (P.getD ((i - o - h) * t) 0))
  else L.getD i 0
def joinK (p : Int) (L P : List Int) (o h t k : Nat) : List Int := (List.range L.length).map (joinF p L P o h t k)
theorem joinK_len (p : Int) (L P : List Int) (o h t k : Nat) : (joinK p L P o h t k).length = L.length := by simp [joinK]
theorem joinK_at {p : Int} {L P : List Int} {o h t k i : Nat} (hi : i < L.length) : (joinK p L P o h t k)[i]'(by rw [joinK_len]; exact hi) = joinF p L P o h t k i := by
  simp [joinK]
theorem joinK_zero (p : Int) (L P : List Int) (o h t : Nat) : joinK p L P o h t 0 = L := by
  refine List.ext_getElem (joinK_len ..) fun i h1 h2 => ?_
  rw [joinK_at h2, joinF, if_neg (by omega), if_neg (by omega), getD_lt _ h2]
theorem joinK_lo {p : Int} {L P : List Int} {o h t k : Nat} (hk : k < h) (ho : o + 2 * h ≤ L.length) : (joinK p L P o h t k)[o + k]'(by rw [joinK_len]; omega) = L[o + k] := by
  rw [joinK_at (by omega), joinF, if_neg (by omega), if_neg (by omega), getD_lt _ (by omega)]
theorem joinK_hi {p : Int} {L P : List Int} {o h t k : Nat} (hk : k < h) (ho : o + 2 * h ≤ L.length) : (joinK p L P o h t k)[o + (h + k)]'(by rw [joinK_len]; omega) = L[o + (h + k)] := by
  rw [joinK_at (by omega), joinF, if_neg (by omega), if_neg (by omega), getD_lt _ (by omega)]
theorem joinK_set {p : Int} {L P : List Int} {o h t k : Nat} (hk : k < h) (ho : o + 2 * h ≤ L.length) (hP : k * t < P.length) :
    ((joinK p L P o h t k).set (o + k) (ad p L[o + k] (ml p L[o + (h + k)] P[k * t]))).set (o + (h + k)) (sb p L[o + k] (ml p L[o + (h + k)] P[k * t])) = joinK p L P o h t (k + 1) := by
  refine List.ext_getElem (by simp [joinK_len]) fun i h1 h2 => ?_
  rw [joinK_len] at h2
  rw [List.getElem_set, List.getElem_set, joinK_at h2, joinK_at h2]
  unfold joinF
  by_cases h3 : o + (h + k) = i
  · subst h3
    rw [if_pos rfl, if_neg (by omega), if_pos (by omega), show o + (h + k) - h = o + k by omega, show o + (h + k) - o - h = k by omega, getD_lt _ (by omega), getD_lt _ (by omega), getD_lt _ hP]
  · rw [if_neg h3]
    by_cases h4 : o + k = i
    · subst h4
      rw [if_pos rfl, if_pos (by omega), show o + k + h = o + (h + k) by omega, show o + k - o = k by omega, getD_lt _ (by omega), getD_lt _ (by omega), getD_lt _ hP]
    · rw [if_neg h4]
      by_cases h5 : o ≤ i ∧ i < o + k
      · rw [if_pos h5, if_pos (by omega)]
      · rw [if_neg h5, if_neg (by omega : ¬ (o ≤ i ∧ i < o + (k + 1)))]
        by_cases h6 : o + h ≤ i ∧ i < o + h + k
        · rw [if_pos h6, if_pos (by omega)]
        · rw [if_neg h6, if_neg (by omega)]

set_option maxHeartbeats 8000000 in
theorem join_w (p : Int) (base g c cap o h t : Nat) (L P : List Int) (vp : Value) (w : World) (hown : Own w base (.slice (some ⟨g, 0, none⟩) L.length cap) L) (hlp : Lst w vp P) (hoff : 0 < P.length → vp.ownBlock ≠ some g)
    (ho : o + 2 * h ≤ L.length) (hh : 1 ≤ h) (ht : 1 ≤ t) (hP : P.length = h * t) (hL : L.length ≤ 4096) (hPn : P.length ≤ 4096) :
    Calls Try.prog 48 #[.agg #[.int .u64 p], .slice (some ⟨g, o, none⟩) (2 * h) c, vp] w fun e w' =>
      e = .returned (.tuple #[]) ∧ Own w' base (.slice (some ⟨g, 0, none⟩) L.length cap) (joinK p L P o h t h) ∧ w.grownBy w' (some g) := by
  obtain ⟨a0, c0, rfl⟩ := hlp.shape
  have hgw := (hown.row.lt g rfl).2
  have HW := Lib.hid hown
  have HL := Lib.hid hlp
  have HN := Lib.hid (And.intro hoff (And.intro ho (And.intro hP hL)))
  have i1 : (1 : Int) ≤ (h : Int) := by omega
  have i2 : (h : Int) ≤ 2048 := by omega
  have i3 : (1 : Int) ≤ (t : Int) := by omega
  have i4 : (P.length : Int) ≤ 4096 := by omega
  have i5 : (t : Int) ≤ 4096 := by
    have : 1 * t ≤ h * t := Nat.mul_le_mul_right _ hh
    omega
  have i6 : wrap64 (t : Int) = (t : Int) := by unfold wrap64; omega
  have hd : (P.length : Int).tdiv (h : Int) = (t : Int) := by
    rw [hP]
    rw [Int.natCast_mul]
    exact Int.mul_tdiv_cancel_left _ (by omega)
  have hd2 : ((2 * h : Nat) : Int).tdiv 2 = (h : Int) := by
    rw [Int.natCast_mul]; exact Int.mul_tdiv_cancel_left _ (by decide)
  have hd3 : (P.length : Int) / (h : Int) = (t : Int) := by
    rw [hP]
    rw [Int.natCast_mul]
    exact Int.mul_ediv_cancel_left _ (by omega)
  have hz : ¬ (h : Int) = 0 := by omega
  clear hown hlp hoff ho hP
  go_enter Try.func48, Try.ntmps48
  go_wp2
  go_loopw [19] (fun iv wr => ∃ k : Nat, iv = .int .i64 k ∧ k ≤ h ∧ wr.cell? ⟨w.heap.size, 0, none⟩ = some (.int .u64 p) ∧ Own wr base (.slice (some ⟨g, 0, none⟩) L.length cap) (joinK p L P o h t k) ∧ w.grownBy wr (some g)) (fun iv _ => h - (intOf iv).toNat)
  case atStart => exact ⟨0, rfl, Nat.zero_le _, by go_simp, by rw [joinK_zero]; exact HW.out.hold (Below.made (Nat.le_refl _) (Below.refl _ _) _), grown_below (Below.made (Nat.le_refl _) (Below.refl _ _) _)⟩
  case round =>
    obtain ⟨k, rfl, hk, hp, hown, hg⟩ := hrel
    have i0 : (0 : Int) ≤ (k : Int) := by omega
    by_cases hlt : k < h
    · have ho := HN.out.2.1
      have hkt : k * t < P.length := by rw [HN.out.2.2.1]; exact Nat.mul_lt_mul_of_pos_right hlt (by omega)
      have hc1 : wr.cell? ⟨g, o + k, none⟩ = some (.int .u64 L[o + k]) := by
        rw [hown.cell (by rw [joinK_len]; omega), joinK_lo hlt ho]
      have hc2 : wr.cell? ⟨g, o + (h + k), none⟩ = some (.int .u64 L[o + (h + k)]) := by
        rw [hown.cell (by rw [joinK_len]; omega), joinK_hi hlt ho]
      obtain ⟨b, oa, ca, e, hc3⟩ := (HL.out.kept hg HN.out.1).cells (k * t) hkt
      obtain ⟨rfl, rfl⟩ : a0 = some ⟨b, oa, none⟩ ∧ c0 = ca := by simp at e; exact e
      clear e
      have hz1 := hown.thawed (o + k)
      have hz2 := hown.thawed (o + (h + k))
      have hux := HW.out.us L[o + k] (List.getElem_mem (by omega))
      have huy := HW.out.us L[o + (h + k)] (List.getElem_mem (by omega))
      have huz := HL.out.us P[k * t] (List.getElem_mem hkt)
      have hset := joinK_set (p := p) (P := P) (t := t) hlt ho hkt
      obtain ⟨x, hx⟩ : ∃ x, x = L[o + k] := ⟨_, rfl⟩
      obtain ⟨y, hy⟩ : ∃ y, y = L[o + (h + k)] := ⟨_, rfl⟩
      obtain ⟨z, hz0⟩ : ∃ z, z = P[k * t] := ⟨_, rfl⟩
      rw [← hx] at hux hc1 hset
      rw [← hy] at huy hc2 hset
      rw [← hz0] at huz hc3 hset
      have j1 : (k : Int) < (h : Int) := by omega
      have j2 : (k : Int) < ((2 * h : Nat) : Int) := by omega
      have j3 : (0 : Int) ≤ (k : Int) * (t : Int) := by rw [← Int.natCast_mul]; omega
      have j4 : (k : Int) * (t : Int) < (P.length : Int) := by rw [← Int.natCast_mul]; omega
      have j5 : IntKind.i64.wrap ((k : Int) * (t : Int)) = (k : Int) * (t : Int) := by rw [IntKind.wrap_i64]; omega
      have j7 : wrap64 ((k : Int) * (t : Int)) = (k : Int) * (t : Int) := by unfold wrap64; omega
      have j8 : (k : Int) < 2 * (h : Int) := by omega
      have j9 : (h : Int) + (k : Int) < 2 * (h : Int) := by omega
      have j10 : (0 : Int) ≤ (h : Int) + (k : Int) := by omega
      have j11 : IntKind.i64.wrap ((h : Int) + (k : Int)) = (h : Int) + (k : Int) := by rw [IntKind.wrap_i64]; omega
      have j12 : ((h : Int) + (k : Int)).toNat = h + k := by omega
      have j6 : ((k : Int) * (t : Int)).toNat = k * t := by rw [← Int.natCast_mul]; exact Int.toNat_natCast _
      have HO := Lib.hid (And.intro hown (And.intro hg hset))
      clear hown hg hset hx hy hz0 ho hkt
      go_wp2_with fail
      have k0 := fun q : NwAt wr => q.nw.hold hp
      have k1 := fun q : NwAt wr => q.nw.hold hc1
      have k2 := fun q : NwAt wr => q.nw.hold hc2
      have k3 := fun q : NwAt wr => q.nw.hold hc3
      have k4 := fun q : NwAt wr => q.nw.holdf hz1
      have k5 := fun q : NwAt wr => q.nw.holdf hz2
      refine from_here ?_
      intro q
      refine wp_region_nw (by kernel_rfl) (by kernel_rfl) ?_
      repeat (go_big_quiet_step ((first | (go_at_call 31; exact nwAt_of (fMul_u _ _ _ _)))))
      refine wpQuiet_nil ?_
      clear q
      rintro _ ⟨q, rfl⟩
      have hgx : g ≠ w.heap.size := by omega
      have d0 := k0 q
      have d1 := k1 q
      have d2 := k2 q
      have d4 := k4 q
      have d5 := k5 q
      have HQ := Lib.hid q.nw.b
      (try dsimp only at d0 d1 d2 d4 d5)
      clear k0 k1 k2 k3 k4 k5 hc1 hc2 hc3 hz1 hz2
      go_wp2_with fail
      go_region_held3 (fun w' => w'.cell? ⟨w.heap.size, 0, none⟩ = some (.int .u64 p))
        (first | assumption | exact Nw.hold ‹_› ‹_› | (rw [World.cell?_setCell_far _ _ _ _ hgx]; assumption))
        (first
          | (go_at_call 49; refine (fAdd_u _ _ _ _).mono ?_; rintro _ w2 ⟨rfl, hb2⟩; have e1 := hb2.hold d1; have e2 := hb2.hold d2; have e4 := hb2.holdf d4; have e5 := hb2.holdf d5)
          | (go_at_call 56; refine (fSub_u _ _ _ _).mono ?_; rintro _ w3 ⟨rfl, hb3⟩; have f1 := hb3.hold e1; have f2 := hb3.hold e2; have f4 := hb3.holdf e4; have f5 := hb3.holdf e5))
      have hB : Below wr.heap.size wr w3 := Below.next (Nat.le_refl _) (Below.next (Nat.le_refl _) (HQ.out.drew) hb2.b) hb3.b
      have s1 := (HO.out.1.hold hB).set (o + k) (ad p x (ml p y z))
      have s2 := s1.1.set (o + (h + k)) (sb p x (ml p y z))
      have HS := Lib.hid (And.intro s2.1 (grown_trans (grown_trans (grown_next HO.out.2.1 hB) s1.2) s2.2))
      clear s1 s2 hB hb2 hb3 e1 e2 e4 e5 f1 f2 f4 f5 d0 d1 d2 d4 d5
      go_wp2
      exact ⟨⟨k + 1, by go_num, by omega, by assumption, by rw [← HO.out.2.2]; exact HS.out.1, HS.out.2⟩, by simp [intOf]; omega⟩
    · obtain rfl : k = h := by omega
      have HO := Lib.hid (And.intro hown hg)
      clear hown hg
      go_wp2
      go_end0
      exact ⟨rfl, HO.out.1, HO.out.2⟩
end Go.Proofs.Ytnmbggdfcgbniaa
