/- What package poly returns, for the laws. -/
import Derived.Test.YtgdnkbigdggbaaaOJ
namespace Go.Proofs.Ytgdnkbigdggbaaa
open Go.RowKit

/-- A list is returned that shares no memory with what there was: the normal form of the polynomial f. -/
def PolyL (p : Int) (f : Nat → Fin (Q p)) (w : World) (e : Ending) (w' : World) : Prop := ∃ v r, e = .returned v ∧ Lst w' v r ∧ Is p r f ∧ Below w.heap.size w w'
theorem polyL_of {p : Int} {f : Nat → Fin (Q p)} {w : World} (e : Ending) (w' : World) (h : Poly p f w e w') : PolyL p f w e w' := by
  obtain ⟨v, r, he, ho, hi, hb⟩ := h
  exact ⟨v, r, he, ho.lst, hi, hb⟩

theorem oTrim_p (p : Int) [_hU : U p] (v : Value) (l : List Int) (w : World) (hl : Lst w v l) (hn : l.length ≤ 100) :
    Calls Try.prog 15 #[.agg #[.int .u64 p], v] w (PolyL p (pf p l) w) :=
  (oTrim_any p v l w hl (by omega)).mono fun _ _ ⟨v', he, ho, hb⟩ => ⟨v', _, he, ho.lst, is_trim p l, hb⟩
theorem oDegree_u (p : Int) [_hU : U p] (v : Value) (l : List Int) (w : World) (hl : Lst w v l) (hn : l.length ≤ 100) :
    Calls Try.prog 17 #[.agg #[.int .u64 p], v] w fun e w' => e = .returned (.int .i64 ((cut0 (l.map (rd p))).length - 1)) ∧ Below w.heap.size w w' := oDegree_any p v l w hl (by omega)
theorem oAdd_p (p : Int) [_hU : U p] (va vb : Value) (a b : List Int) (w : World) (hla : Lst w va a) (hlb : Lst w vb b) (hna : a.length ≤ 100) (hnb : b.length ≤ 100) :
    Calls Try.prog 19 #[.agg #[.int .u64 p], va, vb] w (PolyL p (Po.ad (pf p a) (pf p b)) w) := (oAdd_any p va vb a b w hla hlb (by omega) (by omega)).mono polyL_of
theorem oSub_p (p : Int) [_hU : U p] (va vb : Value) (a b : List Int) (w : World) (hla : Lst w va a) (hlb : Lst w vb b) (hna : a.length ≤ 100) (hnb : b.length ≤ 100) :
    Calls Try.prog 21 #[.agg #[.int .u64 p], va, vb] w (PolyL p (Po.sb (pf p a) (pf p b)) w) := (oSub_any p va vb a b w hla hlb (by omega) (by omega)).mono polyL_of
theorem oScale_p (p n : Int) [_hU : U p] [hn : U n] (v : Value) (l : List Int) (w : World) (hl : Lst w v l) (hln : l.length ≤ 100) :
    Calls Try.prog 23 #[.agg #[.int .u64 p], v, .int .u64 n] w (PolyL p (Po.sc (ph p n) (pf p l)) w) := (oScale_any p n v l w hl (by omega)).mono polyL_of
theorem oMul_p (p : Int) [_hU : U p] (va vb : Value) (a b : List Int) (w : World) (hla : Lst w va a) (hlb : Lst w vb b) (hna : a.length ≤ 100) (hnb : b.length ≤ 100) :
    Calls Try.prog 25 #[.agg #[.int .u64 p], va, vb] w (PolyL p (Po.cv (pf p a) (pf p b)) w) := (oMul_any p va vb a b w hla hlb (by omega) (by omega)).mono polyL_of
theorem oEval_u (p x : Int) [_hU : U p] [hx : U x] (va : Value) (a : List Int) (w : World) (hla : Lst w va a) (hna : a.length ≤ 100) :
    Calls Try.prog 27 #[.agg #[.int .u64 p], va, .int .u64 x] w fun e w' => e = .returned (.int .u64 (ival p (Po.ev (pf p a) (ph p x) a.length))) ∧ Below w.heap.size w w' := oEval_any p x va a w hla (by omega)
theorem oVanishing_p (p : Int) [_hU : U p] (v : Value) (l : List Int) (w : World) (hl : Lst w v l) (hn : l.length ≤ 50) :
    Calls Try.prog 40 #[.agg #[.int .u64 p], v] w (PolyL p (Po.van (l.map (ph p))) w) := (oVanishing_any p v l w hl (by omega)).mono polyL_of
end Go.Proofs.Ytgdnkbigdggbaaa
