/- The levels of the transform, and what one join does to them. The walk of package transform's transform. -/
import Derived.Test.YtnmbggdfcgbniaaTPB
namespace Go.Proofs.Ytnmbggdfcgbniaa
open Go.RowKit
open Classical
namespace Po
variable {q : Nat} [NeZero q]

/-- What stands at place i after s rounds of joins. -/
def lvl (f : Nat → Fin q) (w : Fin q) (B s i : Nat) : Fin q := vl f (pwF w (2 ^ (B - s))) (2 ^ s) (rev (B - s) (i / 2 ^ s)) (2 ^ (B - s)) (i % 2 ^ s)
theorem lvl_zero (f : Nat → Fin q) (w : Fin q) (B i : Nat) : lvl f w B 0 i = f (rev B i) := by
  unfold lvl
  rw [Nat.pow_zero, vl_one, Nat.div_one, Nat.sub_zero]
theorem lvl_end (f : Nat → Fin q) (w : Fin q) {B i : Nat} (h : i < 2 ^ B) : lvl f w B B i = vl f w (2 ^ B) 0 1 i := by
  unfold lvl
  rw [Nat.sub_self, Nat.pow_zero, Nat.mod_eq_of_lt h]
  have : pwF w 1 = w := by show 1 * w = w; grind
  rw [this]; rfl
theorem lvl_split {h j k : Nat} (hk : k < h) : (2 * h * j + k) / (2 * h) = j ∧ (2 * h * j + k) % (2 * h) = k ∧ (2 * h * j + k) / h = 2 * j ∧ (2 * h * j + k) % h = k ∧
    (2 * h * j + (h + k)) / (2 * h) = j ∧ (2 * h * j + (h + k)) % (2 * h) = k + h ∧ (2 * h * j + (h + k)) / h = 2 * j + 1 ∧ (2 * h * j + (h + k)) % h = k := by
  have e1 : 2 * h * j + k = h * (2 * j) + k := by rw [Nat.mul_comm 2 h, Nat.mul_assoc]
  have e2 : 2 * h * j + (h + k) = h * (2 * j + 1) + k := by rw [Nat.mul_add, Nat.mul_comm 2 h, Nat.mul_assoc]; omega
  refine ⟨?_, ?_, ?_, ?_, ?_, ?_, ?_, ?_⟩
  · rw [Nat.mul_add_div (by omega), Nat.div_eq_of_lt (by omega)] <;> omega
  · rw [Nat.mul_add_mod, Nat.mod_eq_of_lt (by omega)]
  · rw [e1, Nat.mul_add_div (by omega), Nat.div_eq_of_lt hk] <;> omega
  · rw [e1, Nat.mul_add_mod, Nat.mod_eq_of_lt hk]
  · rw [Nat.mul_add_div (by omega), Nat.div_eq_of_lt (by omega)] <;> omega
  · rw [Nat.mul_add_mod, Nat.mod_eq_of_lt (by omega)] <;> omega
  · rw [e2, Nat.mul_add_div (by omega), Nat.div_eq_of_lt hk] <;> omega
  · rw [e2, Nat.mul_add_mod, Nat.mod_eq_of_lt hk]
theorem lvl_lo (f : Nat → Fin q) (w : Fin q) {c s j k : Nat} (hk : k < 2 ^ s) :
    lvl f w (s + 1 + c) (s + 1) (2 * 2 ^ s * j + k) = lvl f w (s + 1 + c) s (2 * 2 ^ s * j + k) + pwF w (k * 2 ^ c) * lvl f w (s + 1 + c) s (2 * 2 ^ s * j + (2 ^ s + k)) := by
  obtain ⟨h1, h2, h3, h4, _, _, h7, h8⟩ := lvl_split (j := j) hk
  unfold lvl
  rw [show 2 ^ (s + 1) = 2 * 2 ^ s by rw [Nat.pow_succ, Nat.mul_comm], h1, h2, h3, h4, h7, h8, show s + 1 + c - (s + 1) = c by omega, show s + 1 + c - s = c + 1 by omega, rev_even, rev_odd, vl_lo,
    show 2 ^ (c + 1) = 2 ^ c * 2 by rw [Nat.pow_succ], pwF_pow w (2 ^ c) 2, Nat.mul_comm k (2 ^ c), pwF_pow w (2 ^ c) k, Nat.mul_comm (2 ^ c) 2]
theorem lvl_hi (f : Nat → Fin q) {w : Fin q} {c s j k : Nat} (hw : pwF w (2 ^ (s + c)) = 0 - 1) (hk : k < 2 ^ s) :
    lvl f w (s + 1 + c) (s + 1) (2 * 2 ^ s * j + (2 ^ s + k)) = lvl f w (s + 1 + c) s (2 * 2 ^ s * j + k) - pwF w (k * 2 ^ c) * lvl f w (s + 1 + c) s (2 * 2 ^ s * j + (2 ^ s + k)) := by
  obtain ⟨_, _, h3, h4, h5, h6, h7, h8⟩ := lvl_split (j := j) hk
  have hw2 : pwF (pwF w (2 ^ c)) (2 ^ s) = 0 - 1 := by rw [← pwF_pow, ← Nat.pow_add, Nat.add_comm c s]; exact hw
  unfold lvl
  rw [show 2 ^ (s + 1) = 2 * 2 ^ s by rw [Nat.pow_succ, Nat.mul_comm], h3, h4, h5, h6, h7, h8, show s + 1 + c - (s + 1) = c by omega, show s + 1 + c - s = c + 1 by omega, rev_even, rev_odd, vl_hi hw2,
    show 2 ^ (c + 1) = 2 ^ c * 2 by rw [Nat.pow_succ], pwF_pow w (2 ^ c) 2, Nat.mul_comm k (2 ^ c), pwF_pow w (2 ^ c) k, Nat.mul_comm (2 ^ c) 2]
end Po

theorem ph_powL {p r : Int} (hk : known p = true) {n i : Nat} (h : i < n) : ph p ((powL p r n).getD i 0) = Po.pwF (ph p r) i := by
  rw [getD_lt _ (by rw [powL_len]; exact h), powL_at, ph_emod hk, ph_pow hk]

/-- One join. -/
theorem join_level {p r : Int} (hk : known p = true) {c s j m : Nat} {M : List Int} {f : Nat → Fin (Q p)} (hM : M.length = 2 ^ (s + 1 + c)) (hw : Po.pwF (ph p r) (2 ^ (s + c)) = 0 - 1) (hj : 2 * 2 ^ s * j + 2 * 2 ^ s ≤ M.length) (hm : 2 ^ s * 2 ^ c ≤ m)
    (h : ∀ i, i < M.length → ph p (M.getD i 0) = if i < 2 * 2 ^ s * j then Po.lvl f (ph p r) (s + 1 + c) (s + 1) i else Po.lvl f (ph p r) (s + 1 + c) s i) :
    ∀ i, i < M.length → ph p ((joinK p M (powL p r m) (2 * 2 ^ s * j) (2 ^ s) (2 ^ c) (2 ^ s)).getD i 0) = if i < 2 * 2 ^ s * (j + 1) then Po.lvl f (ph p r) (s + 1 + c) (s + 1) i else Po.lvl f (ph p r) (s + 1 + c) s i := fun i hi => by
  rw [getD_lt _ (by rw [joinK_len]; exact hi), joinK_at hi]
  have hs : 0 < 2 ^ s := Nat.two_pow_pos s
  obtain ⟨H, hH⟩ : ∃ H, H = 2 ^ s := ⟨_, rfl⟩
  have e0 : 2 * H * (j + 1) = 2 * H * j + 2 * H := by rw [Nat.mul_add, Nat.mul_one]
  have key : ∀ k, k < 2 ^ s → k * 2 ^ c < m := fun k hk => Nat.lt_of_lt_of_le (Nat.mul_lt_mul_of_pos_right hk (Nat.two_pow_pos c)) hm
  by_cases h1 : i < 2 * 2 ^ s * j
  · rw [joinF, if_neg (by omega), if_neg (by omega), h i hi, if_pos h1, if_pos (by rw [← hH] at h1 ⊢; omega)]
  · obtain ⟨d, rfl⟩ : ∃ d, i = 2 * 2 ^ s * j + d := ⟨i - 2 * 2 ^ s * j, by omega⟩
    by_cases h2 : d < 2 ^ s
    · rw [joinF, if_pos (by omega), if_pos (by rw [← hH] at h2 ⊢; omega), ph_ad hk, ph_ml hk, h _ (by omega), if_neg (by omega), h _ (by omega), if_neg (by omega), show 2 * 2 ^ s * j + d - 2 * 2 ^ s * j = d by omega, ph_powL hk (key d h2), Po.lvl_lo f _ h2,
        show 2 * 2 ^ s * j + d + 2 ^ s = 2 * 2 ^ s * j + (2 ^ s + d) by omega]
      grind
    · by_cases h3 : d < 2 * 2 ^ s
      · obtain ⟨k, rfl⟩ : ∃ k, d = 2 ^ s + k := ⟨d - 2 ^ s, by omega⟩
        have hk2 : k < 2 ^ s := by omega
        rw [joinF, if_neg (by omega), if_pos (by omega), if_pos (by rw [← hH] at h3 ⊢; omega), ph_sb hk, ph_ml hk, h _ (by omega), if_neg (by omega), h _ (by omega), if_neg (by omega), show 2 * 2 ^ s * j + (2 ^ s + k) - 2 * 2 ^ s * j - 2 ^ s = k by omega, ph_powL hk (key k hk2), Po.lvl_hi f hw hk2,
          show 2 * 2 ^ s * j + (2 ^ s + k) - 2 ^ s = 2 * 2 ^ s * j + k by omega]
        grind
      · rw [joinF, if_neg (by omega), if_neg (by omega), h _ hi, if_neg (by omega), if_neg (by rw [← hH] at h3 ⊢; omega)]
theorem sb_bd2 {p : Int} (hk : known p = true) (a b : Int) : 0 ≤ sb p a b ∧ sb p a b < p := by
  rw [sb, if_pos hk]
  have := known_lo hk
  exact ⟨Int.emod_nonneg _ (by omega), Int.emod_lt_of_pos _ (by omega)⟩
/-- All elements are reduced. -/
def Red (p : Int) (l : List Int) : Prop := ∀ y ∈ l, 0 ≤ y ∧ y < p
theorem join_red {p : Int} (hk : known p = true) {M P : List Int} {o h t k : Nat} (hr : Red p M) : Red p (joinK p M P o h t k) := fun y hy => by
  simp only [joinK, List.mem_map, List.mem_range] at hy
  obtain ⟨i, hi, rfl⟩ := hy
  unfold joinF
  split
  · exact ad_bd hk _ _
  · split
    · exact sb_bd2 hk _ _
    · rw [getD_lt _ hi]; exact hr _ (List.getElem_mem hi)
theorem turnL_red {p : Int} {b : Nat} {l : List Int} (hl : l.length = 2 ^ b) (hr : Red p l) : Red p (turnL b l) := fun y hy => by
  simp only [turnL, List.mem_map, List.mem_range] at hy
  obtain ⟨i, hi, rfl⟩ := hy
  have h2 : rev b i < l.length := by rw [hl]; exact rev_lt b i
  rw [getD_lt _ h2]; exact hr _ (List.getElem_mem h2)
theorem turnL_level {p : Int} {b : Nat} {l : List Int} (w : Fin (Q p)) : ∀ i, i < l.length → ph p ((turnL b l).getD i 0) = Po.lvl (pf p l) w b 0 i := fun i hi => by
  rw [Po.lvl_zero, getD_lt _ (by rw [turnL_len]; exact hi)]
  simp only [turnL, List.getElem_map, List.getElem_range]
  rfl
end Go.Proofs.Ytnmbggdfcgbniaa

namespace Go.Proofs.Ytnmbggdfcgbniaa
open Go.RowKit Go.BigFrame
open Classical

/-- Between the joins: s rounds are done, and j joins of the next one. -/
structure Mid (p r : Int) (a M : List Int) (b s j : Nat) : Prop where
  len : M.length = a.length
  at_ : ∀ i, i < M.length → ph p (M.getD i 0) = if i < 2 * 2 ^ s * j then Po.lvl (pf p a) (ph p r) b (s + 1) i else Po.lvl (pf p a) (ph p r) b s i
  red : Red p a → Red p M
theorem Mid.start {p r : Int} {a : List Int} {b : Nat} (hl : a.length = 2 ^ b) : Mid p r a (turnL b a) b 0 0 :=
  ⟨turnL_len _ _, fun i hi => by rw [if_neg (by omega)]; exact turnL_level _ i (by rw [turnL_len] at hi; exact hi), turnL_red hl⟩
theorem Mid.next {p r : Int} {a M : List Int} {b s c j : Nat} (h : Mid p r a M b s j) (hk : known p = true) (hl : a.length = 2 ^ b) (hb : b = s + 1 + c) (hw : Po.pwF (ph p r) (2 ^ (b - 1)) = 0 - 1) (hj : 2 * 2 ^ s * j + 2 * 2 ^ s ≤ a.length) {m : Nat} (hm : 2 ^ s * 2 ^ c ≤ m) :
    Mid p r a (joinK p M (powL p r m) (2 * 2 ^ s * j) (2 ^ s) (2 ^ c) (2 ^ s)) b s (j + 1) := by
  subst hb
  have hM : M.length = 2 ^ (s + 1 + c) := by rw [h.len, hl]
  refine ⟨by rw [joinK_len, h.len], ?_, fun hr => join_red hk (h.red hr)⟩
  rw [joinK_len]
  exact join_level hk hM (by rw [show s + c = s + 1 + c - 1 by omega]; exact hw) (by rw [h.len]; exact hj) hm h.at_
theorem Mid.round {p r : Int} {a M : List Int} {b s j : Nat} (h : Mid p r a M b s j) (hj : 2 * 2 ^ s * j = a.length) : Mid p r a M b (s + 1) 0 :=
  ⟨h.len, fun i hi => by rw [h.at_ i hi, if_pos (by rw [hj, ← h.len]; exact hi), if_neg (by omega)], h.red⟩

/-- What transform returns. -/
structure Trf (p r : Int) (a M : List Int) : Prop where
  len : M.length = a.length
  val : ∀ k (h : k < M.length), ph p M[k] = Po.vl (pf p a) (ph p r) a.length 0 1 k
  red : Red p a → Red p M
theorem Mid.done {p r : Int} {a M : List Int} {b : Nat} (h : Mid p r a M b b 0) (hl : a.length = 2 ^ b) : Trf p r a M :=
  ⟨h.len, fun k hk => by
    have h1 := h.at_ k hk
    rw [getD_lt _ hk, if_neg (by omega), Po.lvl_end _ _ (by rw [← hl, ← h.len]; exact hk), ← hl] at h1
    exact h1, h.red⟩

set_option maxRecDepth 100000 in
set_option maxHeartbeats 8000000 in
theorem transform_w (p r : Int) [hrU : U r] (hk : known p = true) (va : Value) (a : List Int) (b : Nat) (w : World) (hla : Lst w va a) (hab : a.length = 2 ^ b) (hb : b ≤ 12) (hw : b ≠ 0 → Po.pwF (ph p r) (2 ^ (b - 1)) = 0 - 1) :
    Calls Try.prog 33 #[.agg #[.int .u64 p], va, .int .u64 r] w fun e w' => ∃ g M, e = .returned (.slice (some ⟨g, 0, none⟩) a.length a.length) ∧ Own w' w.heap.size (.slice (some ⟨g, 0, none⟩) a.length a.length) M ∧ Trf p r a M ∧ Below w.heap.size w w' := by
  obtain ⟨a0, c0, rfl⟩ := hla.shape
  have hp2 : (2 : Nat) ^ b ≤ 2 ^ 12 := Nat.pow_le_pow_right (by decide) hb
  have hp0 : 0 < 2 ^ b := Nat.two_pow_pos b
  have i1 : (1 : Int) ≤ (a.length : Int) := by omega
  have i2 : (a.length : Int) ≤ 4096 := by omega
  obtain ⟨m, hm⟩ : ∃ m, m = a.length / 2 := ⟨_, rfl⟩
  have hd : (a.length : Int).tdiv 2 = (m : Int) := by rw [Int.tdiv_eq_ediv_of_nonneg (by omega)]; omega
  have hd1 : (a.length : Int) / 2 = (m : Int) := by omega
  have i3 : (m : Int) ≤ 4096 := by omega
  have HK := Lib.hid (And.intro hk (And.intro hab (And.intro hb (And.intro hw hm))))
  have HL := Lib.hid hla
  clear hk hab hb hw hla hp2 hp0 hm
  go_enter Try.func33, Try.ntmps33
  go_upto_region 1 with fail
  refine name_world ?_
  intro W hW
  have hf : W.cell? ⟨w.heap.size, 0, none⟩ = some (.int .u64 p) := by rw [hW]; go_simp
  have hB0 : Below w.heap.size w W := by rw [hW]; exact Below.made (Nat.le_refl _) (Below.refl _ _) _
  have HB := Lib.hid hB0
  have hfW := hf
  clear hW hB0
  go_upto_region 2 with (go_at_call 46; refine (reversed_u _ a b _ (HL.out.hold HB.out) HK.out.2.1 HK.out.2.2.1).mono ?_; rintro _ w1 ⟨g, rfl, hown1, hb1⟩; have hf1 := Below.hold hb1 hf)
  have HO1 := Lib.hid (And.intro hown1 hb1)
  have hg1 := (hown1.row.lt g rfl).2
  clear hown1 hb1 hf
  go_upto_region 3 with (go_at_call 47; refine (fPowers_o p r m HK.out.1 (by omega) _).mono ?_; rintro _ w2 ⟨vp, rfl, hown2, hb2⟩; have hf2 := Below.hold hb2 hf1)
  have hpo := hown2.row.lt
  have hoff : 0 < (powL p r m).length → vp.ownBlock ≠ some g := fun _ e => by
    have := (hpo g e).1
    omega
  have hgb := (HO1.out.1.row.lt g rfl).1
  have hbw : w.heap.size < W.heap.size := World.block_lt_of_cell? _ _ hfW
  have HO2 := Lib.hid (And.intro hown2 (And.intro hb2 (And.intro hoff hf2)))
  have HBw := Lib.hid (Below.next (Nat.le_refl _) HO1.out.2 hb2)
  have HG := Lib.hid (show g ≠ w.heap.size by omega)
  have HOw := Lib.hid (HO1.out.1.hold hb2)
  clear hown2 hb2 hoff hf2 hf1 hpo hgb hfW
  go_wp2
  go_loopw [9] (fun hv wr => ∃ (s H : Nat) (M : List Int), hv = .int .i64 H ∧ H = 2 ^ s ∧ s ≤ b ∧ Own wr W.heap.size (.slice (some ⟨g, 0, none⟩) a.length a.length) M ∧ Mid p r a M b s 0 ∧ w2.grownBy wr (some g)) (fun hv _ => a.length - (intOf hv).toNat)
  case atStart => exact ⟨0, 1, _, rfl, rfl, Nat.zero_le _, HOw.out, Mid.start HK.out.2.1, World.grownBy.refl _ _⟩
  case round =>
    obtain ⟨s, H, M, rfl, hH, hs, hown, hmid, hgr⟩ := hrel
    by_cases hlt : s < b
    · obtain ⟨c, hc⟩ : ∃ c, b = s + 1 + c := ⟨b - s - 1, by omega⟩
      obtain ⟨C, hC⟩ : ∃ C, C = 2 ^ c := ⟨_, rfl⟩
      have hn : a.length = 2 * H * C := by rw [HK.out.2.1, hc, Nat.pow_add, Nat.pow_succ, ← hH, ← hC, Nat.mul_comm H 2]
      have hH0 : 0 < H := by rw [hH]; exact Nat.two_pow_pos s
      have hC0 : 0 < C := by rw [hC]; exact Nat.two_pow_pos c
      have hle : 2 * H * 1 ≤ 2 * H * C := Nat.mul_le_mul_left _ hC0
      have j1 : (1 : Int) ≤ (H : Int) := by omega
      have j2 : 2 * (H : Int) ≤ (a.length : Int) := by omega
      have j3 : (H : Int) < (a.length : Int) := by omega
      have HN := Lib.hid (And.intro hn (And.intro hH (And.intro hC (And.intro hc (And.intro hs hmid.len)))))
      have HV := Lib.hid (And.intro hown (And.intro hmid hgr))
      clear hown hmid hgr hn hle hH hC hc hs
      go_wp2_with fail
      go_loopw [10] (fun zv wi => ∃ (j z : Nat) (N : List Int), zv = .int .i64 z ∧ z = 2 * H * j ∧ z ≤ a.length ∧ Own wi W.heap.size (.slice (some ⟨g, 0, none⟩) a.length a.length) N ∧ Mid p r a N b s j ∧ w2.grownBy wi (some g)) (fun zv _ => a.length - (intOf zv).toNat)
      case atStart => exact ⟨0, 0, M, rfl, by simp, Nat.zero_le _, HV.out.1, HV.out.2.1, HV.out.2.2⟩
      case round =>
        obtain ⟨j, z, N, rfl, hz, hzn, hown, hmid, hgr⟩ := hrel
        by_cases hzl : z < a.length
        · have hjC : j < C := by
            have h1 := HN.out.1
            rw [hz, h1] at hzl
            exact Nat.lt_of_mul_lt_mul_left hzl
          have hzH : z + 2 * H ≤ a.length := by
            have h1 : 2 * H * (j + 1) ≤ 2 * H * C := Nat.mul_le_mul_left _ hjC
            rw [Nat.mul_add, Nat.mul_one] at h1
            have h2 := HN.out.1
            omega
          have k1 : (z : Int) < (a.length : Int) := by omega
          have k2 : (z : Int) + 2 * (H : Int) ≤ (a.length : Int) := by omega
          have k3 : (0 : Int) ≤ (z : Int) := by omega
          have hp := grown_cell hgr HO2.out.2.2.2 (by intro e; cases e; exact HG.out rfl)
          have hNl := hmid.len
          have HZ := Lib.hid (And.intro hown (And.intro hmid (And.intro hgr (And.intro hz (And.intro hjC (And.intro hzH hNl))))))
          clear hown hmid hgr hz hjC hzH hNl hzn hzl
          go_wp2_with fail
          have k0 := fun q : NwAt wr => q.nw.hold hp
          refine from_here ?_
          intro q
          refine wp_region_nwt 9 (by kernel_rfl) (by kernel_rfl) ?_
          simp only [List.take_succ_cons, List.take_zero, List.drop_succ_cons, List.drop_zero]
          repeat (go_big_quiet_step ((first | fail)))
          refine wpQuiet_nil ?_
          clear q
          rintro _ ⟨q, rfl⟩
          go_wp2_with fail
          have hmP : (powL p r m).length = H * C := by
            have h1 := HK.out.2.2.2.2
            have h2 := HN.out.1
            rw [Nat.mul_assoc] at h2
            rw [powL_len]
            omega
          have hNl := HZ.out.2.2.2.2.2.2
          have hN2 := HZ.out.2.2.2.2.2.1
          have hown := HZ.out.1.hold q.nw.b
          rw [← hNl] at hown hN2
          have hlp := (HO2.out.1.lst.kept HZ.out.2.2.1 HO2.out.2.2.1).hold q.nw.b
          refine (join_w p W.heap.size g _ _ z H C N (powL p r m) vp q.out hown hlp HO2.out.2.2.1 hN2 (by omega) (by omega) hmP (by omega) (by rw [powL_len]; omega)).mono ?_
          rintro _ w3 ⟨rfl, hown3, hg3⟩
          have hmid := HZ.out.2.1.next (c := c) HK.out.1 HK.out.2.1 HN.out.2.2.2.1 (HK.out.2.2.2.1 (by omega)) (by rw [← HN.out.2.1, ← HZ.out.2.2.2.1]; omega) (m := m) (by rw [← HN.out.2.1, ← HN.out.2.2.1, ← hmP, powL_len]; exact Nat.le_refl _)
          rw [← HN.out.2.1, ← HN.out.2.2.1, ← HZ.out.2.2.2.1] at hmid
          have hgr := grown_trans (grown_next HZ.out.2.2.1 q.nw.b) hg3
          rw [hNl] at hown3
          have HR := Lib.hid (And.intro hown3 (And.intro hmid hgr))
          clear hown3 hmid hgr hown hN2 hlp hg3 hmP hp k0 hNl
          go_wp2
          exact ⟨⟨j + 1, z + 2 * H, _, by go_num, by rw [HZ.out.2.2.2.1, Nat.mul_add, Nat.mul_one], by omega, HR.out.1, HR.out.2.1, HR.out.2.2⟩, by simp [intOf]; omega⟩
        · obtain rfl : z = a.length := by omega
          have HZ := Lib.hid (And.intro hown (And.intro hmid (And.intro hgr hz)))
          clear hown hmid hgr hz hzn
          go_wp2
          exact ⟨⟨s + 1, 2 * H, _, by go_num, by rw [HN.out.2.1, Nat.pow_succ, Nat.mul_comm], by omega, HZ.out.1, HZ.out.2.1.round (by rw [← HN.out.2.1]; exact HZ.out.2.2.2.symm), HZ.out.2.2.1⟩, by simp [intOf]; omega⟩
    · obtain rfl : s = b := by omega
      have hHn : H = a.length := by rw [hH, HK.out.2.1]
      subst hHn
      have HV := Lib.hid (And.intro hown (And.intro hmid hgr))
      clear hown hmid hgr
      go_wp2
      go_ret
      have hB3 := Below.wrote HBw.out (Nat.le_refl _) HBw.out.size HOw.out HV.out.2.2
      exact ⟨_, _, rfl, HV.out.1.low HB.out.size, HV.out.2.1.done HK.out.2.1, Below.next (Nat.le_refl _) HB.out hB3⟩
end Go.Proofs.Ytnmbggdfcgbniaa
