/- Regions that draw their order and call functions after which nothing that lay there before has turned: one walk in the order of the text serves every order. -/
import Derived.Test.YtdcdaclkeocfpaaTail
import Derived.Test.YtdcdaclkeocfpaaLst
namespace Go.Proofs.Ytdcdaclkeocfpaa
open Go.RowKit Go.BigFrame

/-- A world that 'w' may have become: what lay there is as it was. -/
structure BwAt (w : World) where
  out : World
  bw : Below w.heap.size w out
instance (w : World) : Inhabited (BwAt w) := ⟨⟨w, Below.refl _ _⟩⟩
theorem bwAt_of {P : Program} {f : FuncId} {args : Array Value} {w : World} {q : BwAt w} {v : Value}
    (h : Calls P f args q.out fun e w' => e = .returned v ∧ Below q.out.heap.size q.out w') : Calls P f args q.out fun e w'' => e = .returned v ∧ ∃ q : BwAt w, w'' = q.out :=
  h.mono fun _ _ ⟨he, hb⟩ => ⟨he, ⟨_, Below.next (Nat.le_refl _) q.bw hb⟩, rfl⟩
theorem bwAt_nw {P : Program} {f : FuncId} {args : Array Value} {w : World} {q : BwAt w} {v : Value}
    (h : Calls P f args q.out fun e w' => e = .returned v ∧ Nw q.out.heap.size q.out w') : Calls P f args q.out fun e w'' => e = .returned v ∧ ∃ q : BwAt w, w'' = q.out :=
  bwAt_of (h.mono fun _ _ ⟨he, hb⟩ => ⟨he, hb.b⟩)
theorem BwAt.drew {w : World} (q : BwAt w) : ∃ q' : BwAt w, q.out.drew = q'.out := ⟨⟨_, q.bw.drew⟩, rfl⟩
theorem wp_region_bw {P : Program} {id : Nat} {Q : Exit → Act → World → Prop} {a : Act} {w : World} {q : BwAt w} {l : List Oper} (hm : P.follows .mixedOrders = true) (hB : Region.lexB .any l.toArray = true)
    (h : wpQuiet P l.toArray (fun w' => ∃ q : BwAt w, w' = q.out) (fun a' => ∀ w', (∃ q : BwAt w, w' = q.out) → Q .normal a' w') l a) : (Code.region id l.toArray true).wp P Q a q.out :=
  wp_region_quiet (C := fun w' => ∃ q : BwAt w, w' = q.out) hm hB q.drew (by simpa using h)
theorem wp_region_bwt {P : Program} {id : Nat} {Q : Exit → Act → World → Prop} {a : Act} {w : World} {q : BwAt w} {l : List Oper} (n : Nat) (hm : P.follows .mixedOrders = true) (hB : Region.lexTailB .any l.toArray n = true)
    (h : wpQuiet P l.toArray (fun w' => ∃ q : BwAt w, w' = q.out) (fun a' => ∀ w', (∃ q : BwAt w, w' = q.out) → wpList P l.toArray Q (l.drop n) a' w') (l.take n) a) : (Code.region id l.toArray true).wp P Q a q.out :=
  region_tail (C := fun w' => ∃ q : BwAt w, w' = q.out) n hm hB q.drew h
/-- From here on the world is one that 'W' may have become. -/
theorem from_now {P : Program} {c : Code} {Q : Exit → Act → World → Prop} {a : Act} {W : World} (h : ∀ q : BwAt W, c.wp P Q a q.out) : c.wp P Q a W := h ⟨W, Below.refl _ _⟩
end Go.Proofs.Ytdcdaclkeocfpaa
