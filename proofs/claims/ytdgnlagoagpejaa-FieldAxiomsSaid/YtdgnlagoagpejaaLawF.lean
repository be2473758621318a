/- The walk of the statement on the laws of a commutative ring. -/
import Derived.Test.YtdgnlagoagpejaaLawC
import Derived.Test.YtdgnlagoagpejaaLex
namespace Go.Proofs.Ytdgnlagoagpejaa
open Go.RowKit Go.BigFrame

theorem ad_lo {p a b : Int} : 0 ≤ ad p a b := by
  unfold ad; split
  · exact Int.emod_nonneg _ (by have := known_lo ‹_›; omega)
  · exact Int.le_refl _
theorem ad_hi {p a b : Int} : ad p a b ≤ 18446744073709551615 := by
  unfold ad; split
  · rename_i h; have := Int.emod_lt_of_pos (a + b) (show 0 < p by have := known_lo h; omega); have := known_hi h; omega
  · omega
theorem ml_lo {p a b : Int} : 0 ≤ ml p a b := by
  unfold ml; split
  · exact Int.emod_nonneg _ (by have := known_lo ‹_›; omega)
  · exact Int.le_refl _
theorem ml_hi {p a b : Int} : ml p a b ≤ 18446744073709551615 := by
  unfold ml; split
  · rename_i h; have := Int.emod_lt_of_pos (a * b) (show 0 < p by have := known_lo h; omega); have := known_hi h; omega
  · omega

theorem ax_add {p a b c : Int} (hk : known p = true) : (ad p a (ad p b c) == ad p (ad p a b) c) = true := by
  rw [beq_iff_eq, ad, ad, ad, ad, if_pos hk, if_pos hk, if_pos hk, if_pos hk]
  rw [Int.add_emod, Int.emod_emod, ← Int.add_emod, ← Int.add_assoc, Int.add_emod (_ % p), Int.emod_emod, ← Int.add_emod]
theorem ax_addc {p a b : Int} : (ad p a b == ad p b a) = true := by rw [beq_iff_eq, ad, ad, Int.add_comm]
theorem ax_mul {p a b c : Int} (hk : known p = true) : (ml p a (ml p b c) == ml p (ml p a b) c) = true := by
  rw [beq_iff_eq, ml, ml, ml, ml, if_pos hk, if_pos hk, if_pos hk, if_pos hk]
  rw [Int.mul_emod, Int.emod_emod, ← Int.mul_emod, ← Int.mul_assoc, Int.mul_emod (_ % p), Int.emod_emod, ← Int.mul_emod]
theorem ax_mulc {p a b : Int} : (ml p a b == ml p b a) = true := by rw [beq_iff_eq, ml, ml, Int.mul_comm]
theorem ax_dist {p a b c : Int} (hk : known p = true) : (ml p a (ad p b c) == ad p (ml p a b) (ml p a c)) = true := by
  rw [beq_iff_eq, ml, ml, ml, ad, ad, if_pos hk, if_pos hk, if_pos hk, if_pos hk, if_pos hk]
  rw [Int.mul_emod, Int.emod_emod, ← Int.mul_emod, Int.mul_add, Int.add_emod (_ % p), Int.emod_emod, Int.emod_emod, ← Int.add_emod]
theorem ax_neg {p a : Int} (hk : known p = true) : (ad p a (sb p 0 a) == 0) = true := by
  rw [beq_iff_eq, ad, sb, if_pos hk, if_pos hk]
  rw [Int.add_emod, Int.emod_emod, ← Int.add_emod, show a + (0 - a) = 0 from by omega, Int.zero_emod]
theorem ax_one {p a : Int} (hk : known p = true) : (ml p a 1 == rd p a) = true := by
  rw [beq_iff_eq, ml, rd, if_pos hk, if_pos hk, Int.mul_one]
theorem ax_sub {p a b : Int} (hk : known p = true) : (sb p a b == sb p 0 (sb p b a)) = true := by
  rw [beq_iff_eq, sb, sb, sb, if_pos hk, if_pos hk, if_pos hk]
  rw [Int.sub_emod 0, Int.emod_emod, ← Int.sub_emod, show 0 - (b - a) = a - b from by omega]

/-- A world that 'w' may have become: with new blocks, and draws. -/
structure NwAt (w : World) where
  out : World
  nw : Nw w.heap.size w out
instance (w : World) : Inhabited (NwAt w) := ⟨⟨w, Nw.refl _ _⟩⟩
theorem nwAt_of {P : Program} {f : FuncId} {args : Array Value} {w : World} {q : NwAt w} {v : Value}
    (h : Calls P f args q.out fun e w' => e = .returned v ∧ Nw q.out.heap.size q.out w') : Calls P f args q.out fun e w'' => e = .returned v ∧ ∃ q : NwAt w, w'' = q.out :=
  h.mono fun _ _ ⟨he, hb⟩ => ⟨he, ⟨_, Nw.next (Nat.le_refl _) q.nw hb⟩, rfl⟩
theorem wp_region_nw {P : Program} {id : Nat} {Q : Exit → Act → World → Prop} {a : Act} {w : World} {l : List Oper} (hm : P.follows .mixedOrders = true) (hB : Region.lexB .any l.toArray = true)
    (h : wpQuiet P l.toArray (fun w' => ∃ q : NwAt w, w' = q.out) (fun a' => ∀ w', (∃ q : NwAt w, w' = q.out) → Q .normal a' w') l a) : (Code.region id l.toArray true).wp P Q a w :=
  wp_region_quiet (C := fun w' => ∃ q : NwAt w, w' = q.out) hm hB ⟨⟨_, (Nw.refl _ _).drew⟩, rfl⟩ (by simpa using h)

set_option maxRecDepth 100000 in
set_option maxHeartbeats 40000000 in
theorem law_axioms (n a b c : Int) (hn : 0 ≤ n) (hn' : n ≤ 255) (ha : 0 ≤ a) (ha' : a ≤ 18446744073709551615) (hb : 0 ≤ b) (hb' : b ≤ 18446744073709551615) (hc : 0 ≤ c) (hc' : c ≤ 18446744073709551615) (w : World) :
    Calls Try.prog 10 #[.int .u8 n, .agg #[.int .u64 a, .int .u64 b, .int .u64 c]] w fun e w' => e = .returned (.bool true) ∧ Nw w.heap.size w w' := by
  obtain ⟨p, hp⟩ : ∃ p, p = prime n := ⟨_, rfl⟩
  have hk : known p = true := by rw [hp]; exact prime_known n
  have hpl := known_lo hk
  have hph := known_hi hk
  have HP := Lib.hid hp
  have f1 := ax_add (a := a) (b := b) (c := c) hk
  have f2 := @ax_addc p a b
  have f3 := ax_mul (a := a) (b := b) (c := c) hk
  have f4 := @ax_mulc p a b
  have f5 := ax_dist (a := a) (b := b) (c := c) hk
  have f6 := ax_neg (a := a) hk
  have f7 := ax_one (a := a) hk
  have f8 := ax_sub (a := a) (b := b) hk
  clear hp hk
  go_enter Try.func10, Try.ntmps10
  go_wp2_with fail
  refine (rPrime_any n hn hn' _).mono ?_
  rintro e w1 ⟨rfl, hb1⟩
  rw [← HP.out]
  have x0 : w1.cell? ⟨w.heap.size, 0, none⟩ = some (.int .u64 a) := hb1.hold (by go_simp)
  have x1 : w1.cell? ⟨w.heap.size, 1, none⟩ = some (.int .u64 b) := hb1.hold (by go_simp)
  have x2 : w1.cell? ⟨w.heap.size, 2, none⟩ = some (.int .u64 c) := hb1.hold (by go_simp)
  go_wp2_with fail
  have hz : w.heap.size < w1.heap.size := by have := hb1.b.size; simp at this; omega
  have y0 : (w1.alloc (.cells #[.int .u64 p] 24)).cell? ⟨w.heap.size, 0, none⟩ = some (.int .u64 a) := ((Nw.refl _ _).made (Nat.le_refl _) _ _).hold x0
  have y1 : (w1.alloc (.cells #[.int .u64 p] 24)).cell? ⟨w.heap.size, 1, none⟩ = some (.int .u64 b) := ((Nw.refl _ _).made (Nat.le_refl _) _ _).hold x1
  have y2 : (w1.alloc (.cells #[.int .u64 p] 24)).cell? ⟨w.heap.size, 2, none⟩ = some (.int .u64 c) := ((Nw.refl _ _).made (Nat.le_refl _) _ _).hold x2
  have hcell : (w1.alloc (.cells #[.int .u64 p] 24)).cell? ⟨w1.heap.size, 0, none⟩ = some (.int .u64 p) := by go_simp
  have hnw : Nw w.heap.size w (w1.alloc (.cells #[.int .u64 p] 24)) := by (repeat (first | exact Nw.refl _ _ | refine Nw.drew ?_ | refine Nw.made (Nat.le_refl _) ?_ _ _ | refine Nw.next (Nat.le_refl _) ?_ (by assumption)))
  generalize w1.alloc (.cells #[.int .u64 p] 24) = w2 at *
  clear x0 x1 x2 hb1
  go_quiet (fail)
  clear y0 y1 y2
  rename_i nq
  have hcell2 : (w2.drewN nq).cell? ⟨w1.heap.size, 0, none⟩ = some (.int .u64 p) := hcell
  have hnw2 : Nw w.heap.size w (w2.drewN nq) := hnw.drewN nq
  generalize w2.drewN nq = w3 at *
  clear hcell hnw
  go_wp2_with fail
  simp only [List.append_eq, List.cons_append, List.nil_append]
  have hcA : ∀ q : NwAt w3, q.out.cell? ⟨w1.heap.size, 0, none⟩ = some (.int .u64 p) := fun q => q.nw.hold hcell2
  refine wp_region_nw (by kernel_rfl) (lexB_of (by as_aux_lemma => kernel_rfl) ?_) ?_
  · intro k hk
    have hk' : k < 109 := Nat.lt_of_lt_of_le hk (Nat.le_of_ble_eq_true (by kernel_rfl))
    clear hk
    revert k
    have : ∀ {ops : Array Oper}, (∀ i, 0 ≤ i → i < 109 → stepOk ops i = true) → ∀ k, k < 109 → stepOk ops k = true := fun h k hk => h k (Nat.zero_le _) hk
    refine this ?_
    clear this
    refine steps_of (a := 0) (b := 10) (by as_aux_lemma => kernel_rfl) ?_
    refine steps_of (a := 10) (b := 20) (by as_aux_lemma => kernel_rfl) ?_
    refine steps_of (a := 20) (b := 30) (by as_aux_lemma => kernel_rfl) ?_
    refine steps_of (a := 30) (b := 40) (by as_aux_lemma => kernel_rfl) ?_
    refine steps_of (a := 40) (b := 50) (by as_aux_lemma => kernel_rfl) ?_
    refine steps_of (a := 50) (b := 60) (by as_aux_lemma => kernel_rfl) ?_
    refine steps_of (a := 60) (b := 70) (by as_aux_lemma => kernel_rfl) ?_
    refine steps_of (a := 70) (b := 80) (by as_aux_lemma => kernel_rfl) ?_
    refine steps_of (a := 80) (b := 90) (by as_aux_lemma => kernel_rfl) ?_
    refine steps_of (a := 90) (b := 100) (by as_aux_lemma => kernel_rfl) ?_
    refine steps_of (a := 100) (b := 109) (by as_aux_lemma => kernel_rfl) ?_
    exact fun i h1 h2 => absurd h2 (by omega)
  · repeat (go_big_quiet_step ((first
        | (go_at_call 12; exact nwAt_of (awake_any _))
        | (go_at_call 15; exact nwAt_of (fAdd_any _ _ _ (by first | assumption | omega | exact ad_lo | exact ad_hi | exact ml_lo | exact ml_hi | exact sb_lo | exact Int.le_trans sb_hi (by decide)) (by first | assumption | omega | exact ad_lo | exact ad_hi | exact ml_lo | exact ml_hi | exact sb_lo | exact Int.le_trans sb_hi (by decide)) (by first | assumption | omega | exact ad_lo | exact ad_hi | exact ml_lo | exact ml_hi | exact sb_lo | exact Int.le_trans sb_hi (by decide)) (by first | assumption | omega | exact ad_lo | exact ad_hi | exact ml_lo | exact ml_hi | exact sb_lo | exact Int.le_trans sb_hi (by decide)) _))
        | (go_at_call 21; exact nwAt_of (fMul_any _ _ _ (by first | assumption | omega | exact ad_lo | exact ad_hi | exact ml_lo | exact ml_hi | exact sb_lo | exact Int.le_trans sb_hi (by decide)) (by first | assumption | omega | exact ad_lo | exact ad_hi | exact ml_lo | exact ml_hi | exact sb_lo | exact Int.le_trans sb_hi (by decide)) (by first | assumption | omega | exact ad_lo | exact ad_hi | exact ml_lo | exact ml_hi | exact sb_lo | exact Int.le_trans sb_hi (by decide)) (by first | assumption | omega | exact ad_lo | exact ad_hi | exact ml_lo | exact ml_hi | exact sb_lo | exact Int.le_trans sb_hi (by decide)) _))
        | (go_at_call 17; exact nwAt_of (fSub_any _ _ _ (by first | assumption | omega | exact ad_lo | exact ad_hi | exact ml_lo | exact ml_hi | exact sb_lo | exact Int.le_trans sb_hi (by decide)) (by first | assumption | omega | exact ad_lo | exact ad_hi | exact ml_lo | exact ml_hi | exact sb_lo | exact Int.le_trans sb_hi (by decide)) (by first | assumption | omega | exact ad_lo | exact ad_hi | exact ml_lo | exact ml_hi | exact sb_lo | exact Int.le_trans sb_hi (by decide)) (by first | assumption | omega | exact ad_lo | exact ad_hi | exact ml_lo | exact ml_hi | exact sb_lo | exact Int.le_trans sb_hi (by decide)) _))
        | (go_at_call 19; exact nwAt_of (fNeg_any _ _ (by first | assumption | omega | exact ad_lo | exact ad_hi | exact ml_lo | exact ml_hi | exact sb_lo | exact Int.le_trans sb_hi (by decide)) (by first | assumption | omega | exact ad_lo | exact ad_hi | exact ml_lo | exact ml_hi | exact sb_lo | exact Int.le_trans sb_hi (by decide)) _))
        | (go_at_call 13; exact nwAt_of (fReduce_any _ _ (by first | assumption | omega | exact ad_lo | exact ad_hi | exact ml_lo | exact ml_hi | exact sb_lo | exact Int.le_trans sb_hi (by decide)) (by first | assumption | omega | exact ad_lo | exact ad_hi | exact ml_lo | exact ml_hi | exact sb_lo | exact Int.le_trans sb_hi (by decide)) _)))))
    refine wpQuiet_nil ?_
    intro _ hw'
    obtain ⟨q, rfl⟩ := hw'
    have hq := q.nw
    go_wp2
    go_ret
    exact ⟨rfl, Nw.next (Nat.le_refl _) hnw2 hq⟩
end Go.Proofs.Ytdgnlagoagpejaa
