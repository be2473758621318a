/-
  No cell of these rows narrows 'for every input' (looked for: loops, veiled, ifaces, maps, wideKeys, modest, calm, conditions, laid).
  DERIVED. THE GIVEN ROWS OF THIS SEAT. 9 by the template 'for every input the law returns true; each argument reads behind the call as it read before'; 0 by the template 'total and deterministic' (their statements: YtgdnkbigdggbaaaTotals.lean).
  GIVEN WITH THE SEED: the statements are not yours to turn. If you find one false, say at which input.
  Laid BY PROGRAM, IN A SANDBOX (cutbox-rows.mjs): the forced cells as the released guide's own fill.sh prints them over the translation eae5bb23c627dc1f… (all of the seat's roots in one cut). By AI agents, Wed Nov 11 2026. No macro, syntax, notation, axiom, sorry.
-/
import Derived.Test.YtgdnkbigdggbaaaChecked
import GoSem.Claim
import GoSem.ClaimJoined
import GoSem.ClaimMapViews
import Derived.JoinedTies
import Derived.KernelRfl
namespace Go.Proofs.Ytgdnkbigdggbaaa
/- THE CELL 'sum', in the pinned program and in every row, IS THE sha256 OF THE DUMP (.gsa) THAT YtgdnkbigdggbaaaProg.lean LOADS. Nothing in Lean hashes anything: it is a label: what it is worth is what the hold of that sum in a sandbox is worth. -/
noncomputable def Try.pinned : Pinned := { name := "ytgdnkbigdggbaaa", sum := "eae5bb23c627dc1fbb37b1f2814b32b8868560f52a4b84af81f6d54d6ae60eb2", checked := Try.checked }
namespace Rows
def none {H : Type} : Left H := { results := [], args := [] }

/-- 'moidorelaw03.PolyTrim': WHATEVER THE INPUT: true; the input reads as it did. -/
def polyTrimSpec : ChangeSpec := { name := "polyTrim", fn := fun _ => fun
  | [d1, d2] => { results := [.lit (.bool true)], args := [d1, d2] }
  | _ => none }
def polyTrimRow : OpenClaim := { program := "ytgdnkbigdggbaaa", sum := "eae5bb23c627dc1fbb37b1f2814b32b8868560f52a4b84af81f6d54d6ae60eb2", func := "moidore/moidorelaw03.PolyTrim", spec := "polyTrim", inPlace := ["math/bits.Sub64", "math/bits.Add64"], unfollowed := true, recurses := true, apart := false }
def PolyTrimSaid : Prop := polyTrimRow.holds Try.pinned (OpenSpec.ofChange polyTrimSpec)

/-- ITS FALSE NEIGHBOUR: 'it returns false'. Refute it at one input. -/
def polyTrimWrong : ChangeSpec := { name := "polyTrim", fn := fun _ => fun
  | [d1, d2] => { results := [.lit (.bool false)], args := [d1, d2] }
  | _ => none }
def PolyTrimWrongFalsely : Prop := polyTrimRow.holds Try.pinned (OpenSpec.ofChange polyTrimWrong)

/-- 'moidorelaw03.PolySums': WHATEVER THE INPUT: true; the input reads as it did. -/
def polySumsSpec : ChangeSpec := { name := "polySums", fn := fun _ => fun
  | [d1, d2, d3] => { results := [.lit (.bool true)], args := [d1, d2, d3] }
  | _ => none }
def polySumsRow : OpenClaim := { program := "ytgdnkbigdggbaaa", sum := "eae5bb23c627dc1fbb37b1f2814b32b8868560f52a4b84af81f6d54d6ae60eb2", func := "moidore/moidorelaw03.PolySums", spec := "polySums", inPlace := ["math/bits.Sub64", "math/bits.Add64"], unfollowed := true, recurses := true, named := ["math/bits.divideError", "math/bits.overflowError"], apart := false }
def PolySumsSaid : Prop := polySumsRow.holds Try.pinned (OpenSpec.ofChange polySumsSpec)

/-- ITS FALSE NEIGHBOUR: 'it returns false'. Refute it at one input. -/
def polySumsWrong : ChangeSpec := { name := "polySums", fn := fun _ => fun
  | [d1, d2, d3] => { results := [.lit (.bool false)], args := [d1, d2, d3] }
  | _ => none }
def PolySumsWrongFalsely : Prop := polySumsRow.holds Try.pinned (OpenSpec.ofChange polySumsWrong)

/-- 'moidorelaw03.PolyMul': WHATEVER THE INPUT: true; the input reads as it did. -/
def polyMulSpec : ChangeSpec := { name := "polyMul", fn := fun _ => fun
  | [d1, d2, d3] => { results := [.lit (.bool true)], args := [d1, d2, d3] }
  | _ => none }
def polyMulRow : OpenClaim := { program := "ytgdnkbigdggbaaa", sum := "eae5bb23c627dc1fbb37b1f2814b32b8868560f52a4b84af81f6d54d6ae60eb2", func := "moidore/moidorelaw03.PolyMul", spec := "polyMul", inPlace := ["math/bits.Sub64", "math/bits.Add64"], unfollowed := true, recurses := true, named := ["math/bits.divideError", "math/bits.overflowError"], apart := false }
def PolyMulSaid : Prop := polyMulRow.holds Try.pinned (OpenSpec.ofChange polyMulSpec)

/-- ITS FALSE NEIGHBOUR: 'it returns false'. Refute it at one input. -/
def polyMulWrong : ChangeSpec := { name := "polyMul", fn := fun _ => fun
  | [d1, d2, d3] => { results := [.lit (.bool false)], args := [d1, d2, d3] }
  | _ => none }
def PolyMulWrongFalsely : Prop := polyMulRow.holds Try.pinned (OpenSpec.ofChange polyMulWrong)

/-- 'moidorelaw03.PolyEval': WHATEVER THE INPUT: true; the input reads as it did. -/
def polyEvalSpec : ChangeSpec := { name := "polyEval", fn := fun _ => fun
  | [d1, d2, d3] => { results := [.lit (.bool true)], args := [d1, d2, d3] }
  | _ => none }
def polyEvalRow : OpenClaim := { program := "ytgdnkbigdggbaaa", sum := "eae5bb23c627dc1fbb37b1f2814b32b8868560f52a4b84af81f6d54d6ae60eb2", func := "moidore/moidorelaw03.PolyEval", spec := "polyEval", inPlace := ["math/bits.Sub64", "math/bits.Add64"], unfollowed := true, recurses := true, named := ["math/bits.divideError", "math/bits.overflowError"], apart := false }
def PolyEvalSaid : Prop := polyEvalRow.holds Try.pinned (OpenSpec.ofChange polyEvalSpec)

/-- ITS FALSE NEIGHBOUR: 'it returns false'. Refute it at one input. -/
def polyEvalWrong : ChangeSpec := { name := "polyEval", fn := fun _ => fun
  | [d1, d2, d3] => { results := [.lit (.bool false)], args := [d1, d2, d3] }
  | _ => none }
def PolyEvalWrongFalsely : Prop := polyEvalRow.holds Try.pinned (OpenSpec.ofChange polyEvalWrong)

/-- 'moidorelaw03.PolyDivMod': WHATEVER THE INPUT: true; the input reads as it did. -/
def polyDivModSpec : ChangeSpec := { name := "polyDivMod", fn := fun _ => fun
  | [d1, d2, d3] => { results := [.lit (.bool true)], args := [d1, d2, d3] }
  | _ => none }
def polyDivModRow : OpenClaim := { program := "ytgdnkbigdggbaaa", sum := "eae5bb23c627dc1fbb37b1f2814b32b8868560f52a4b84af81f6d54d6ae60eb2", func := "moidore/moidorelaw03.PolyDivMod", spec := "polyDivMod", inPlace := ["math/bits.Sub64", "math/bits.Add64"], unfollowed := true, recurses := true, named := ["math/bits.divideError", "math/bits.overflowError"], apart := false }
def PolyDivModSaid : Prop := polyDivModRow.holds Try.pinned (OpenSpec.ofChange polyDivModSpec)

/-- ITS FALSE NEIGHBOUR: 'it returns false'. Refute it at one input. -/
def polyDivModWrong : ChangeSpec := { name := "polyDivMod", fn := fun _ => fun
  | [d1, d2, d3] => { results := [.lit (.bool false)], args := [d1, d2, d3] }
  | _ => none }
def PolyDivModWrongFalsely : Prop := polyDivModRow.holds Try.pinned (OpenSpec.ofChange polyDivModWrong)

/-- 'moidorelaw03.PolyGCD': WHATEVER THE INPUT: true; the input reads as it did. -/
def polyGCDSpec : ChangeSpec := { name := "polyGCD", fn := fun _ => fun
  | [d1, d2, d3] => { results := [.lit (.bool true)], args := [d1, d2, d3] }
  | _ => none }
def polyGCDRow : OpenClaim := { program := "ytgdnkbigdggbaaa", sum := "eae5bb23c627dc1fbb37b1f2814b32b8868560f52a4b84af81f6d54d6ae60eb2", func := "moidore/moidorelaw03.PolyGCD", spec := "polyGCD", inPlace := ["math/bits.Sub64", "math/bits.Add64"], unfollowed := true, recurses := true, named := ["math/bits.divideError", "math/bits.overflowError"], apart := false }
def PolyGCDSaid : Prop := polyGCDRow.holds Try.pinned (OpenSpec.ofChange polyGCDSpec)

/-- ITS FALSE NEIGHBOUR: 'it returns false'. Refute it at one input. -/
def polyGCDWrong : ChangeSpec := { name := "polyGCD", fn := fun _ => fun
  | [d1, d2, d3] => { results := [.lit (.bool false)], args := [d1, d2, d3] }
  | _ => none }
def PolyGCDWrongFalsely : Prop := polyGCDRow.holds Try.pinned (OpenSpec.ofChange polyGCDWrong)

/-- 'moidorelaw03.PolyInterpolate': WHATEVER THE INPUT: true; the input reads as it did. -/
def polyInterpolateSpec : ChangeSpec := { name := "polyInterpolate", fn := fun _ => fun
  | [d1, d2, d3] => { results := [.lit (.bool true)], args := [d1, d2, d3] }
  | _ => none }
def polyInterpolateRow : OpenClaim := { program := "ytgdnkbigdggbaaa", sum := "eae5bb23c627dc1fbb37b1f2814b32b8868560f52a4b84af81f6d54d6ae60eb2", func := "moidore/moidorelaw03.PolyInterpolate", spec := "polyInterpolate", inPlace := ["math/bits.Sub64", "math/bits.Add64"], unfollowed := true, recurses := true, named := ["math/bits.divideError", "math/bits.overflowError"], apart := false }
def PolyInterpolateSaid : Prop := polyInterpolateRow.holds Try.pinned (OpenSpec.ofChange polyInterpolateSpec)

/-- ITS FALSE NEIGHBOUR: 'it returns false'. Refute it at one input. -/
def polyInterpolateWrong : ChangeSpec := { name := "polyInterpolate", fn := fun _ => fun
  | [d1, d2, d3] => { results := [.lit (.bool false)], args := [d1, d2, d3] }
  | _ => none }
def PolyInterpolateWrongFalsely : Prop := polyInterpolateRow.holds Try.pinned (OpenSpec.ofChange polyInterpolateWrong)

/-- 'moidorelaw03.PolyVanishing': WHATEVER THE INPUT: true; the input reads as it did. -/
def polyVanishingSpec : ChangeSpec := { name := "polyVanishing", fn := fun _ => fun
  | [d1, d2, d3] => { results := [.lit (.bool true)], args := [d1, d2, d3] }
  | _ => none }
def polyVanishingRow : OpenClaim := { program := "ytgdnkbigdggbaaa", sum := "eae5bb23c627dc1fbb37b1f2814b32b8868560f52a4b84af81f6d54d6ae60eb2", func := "moidore/moidorelaw03.PolyVanishing", spec := "polyVanishing", inPlace := ["math/bits.Sub64", "math/bits.Add64"], unfollowed := true, recurses := true, named := ["math/bits.divideError", "math/bits.overflowError"], apart := false }
def PolyVanishingSaid : Prop := polyVanishingRow.holds Try.pinned (OpenSpec.ofChange polyVanishingSpec)

/-- ITS FALSE NEIGHBOUR: 'it returns false'. Refute it at one input. -/
def polyVanishingWrong : ChangeSpec := { name := "polyVanishing", fn := fun _ => fun
  | [d1, d2, d3] => { results := [.lit (.bool false)], args := [d1, d2, d3] }
  | _ => none }
def PolyVanishingWrongFalsely : Prop := polyVanishingRow.holds Try.pinned (OpenSpec.ofChange polyVanishingWrong)

/-- 'moidorelaw03.PolyRestores': WHATEVER THE INPUT: true; the input reads as it did. -/
def polyRestoresSpec : ChangeSpec := { name := "polyRestores", fn := fun _ => fun
  | [d1, d2, d3] => { results := [.lit (.bool true)], args := [d1, d2, d3] }
  | _ => none }
def polyRestoresRow : OpenClaim := { program := "ytgdnkbigdggbaaa", sum := "eae5bb23c627dc1fbb37b1f2814b32b8868560f52a4b84af81f6d54d6ae60eb2", func := "moidore/moidorelaw03.PolyRestores", spec := "polyRestores", inPlace := ["math/bits.Sub64", "math/bits.Add64"], unfollowed := true, recurses := true, apart := false }
def PolyRestoresSaid : Prop := polyRestoresRow.holds Try.pinned (OpenSpec.ofChange polyRestoresSpec)

/-- ITS FALSE NEIGHBOUR: 'it returns false'. Refute it at one input. -/
def polyRestoresWrong : ChangeSpec := { name := "polyRestores", fn := fun _ => fun
  | [d1, d2, d3] => { results := [.lit (.bool false)], args := [d1, d2, d3] }
  | _ => none }
def PolyRestoresWrongFalsely : Prop := polyRestoresRow.holds Try.pinned (OpenSpec.ofChange polyRestoresWrong)

/- THE SECOND FORM. 'bulk': how many values and letters a reading holds, each counted each time it is reached (what is shared counts as often as it is met; a slice's spare places count too). A statement '..UptoSaid' is the law's where the arguments, and the package variables that the reading takes, are together of bulk at most 1048576: NARROWER than '..Said'. Prove '..Said' where nothing that the law and all that it calls make is longer than what came in: it says more and counts as full. Else prove '..UptoSaid'. A law counts once. -/
mutual
def uptoBulk {H : Type} : DataW H → Nat
  | .lit (.string bytes) => bytes.length + 1
  | .lit _ => 1
  | .nil => 1
  | .ptr d => uptoBulk d + 1
  | .slice elems spare => uptoBulkAll elems + uptoBulkAll spare + 1
  | .agg parts => uptoBulkAll parts + 1
  | .iface _ d => uptoBulk d + 1
  | .map entries => uptoBulkEntries entries + 1
  | .held _ => 1
def uptoBulkAll {H : Type} : List (DataW H) → Nat
  | [] => 0
  | d :: r => uptoBulk d + uptoBulkAll r
def uptoBulkEntries {H : Type} : List (Lit × DataW H) → Nat
  | [] => 0
  | x :: r => uptoBulkEntry x + uptoBulkEntries r
def uptoBulkEntry {H : Type} : Lit × DataW H → Nat
  | (.string bytes, d) => bytes.length + uptoBulk d + 1
  | (_, d) => uptoBulk d + 1
 end
def uptoSmall : (H : Type) → List (DataW H) → Bool := fun _ ds => decide (uptoBulkAll ds ≤ 1048576)
def OpenSpec.upto (s : _root_.Go.ChangeSpec) : _root_.Go.OpenSpec := { _root_.Go.OpenSpec.ofChange s with cond := some uptoSmall }

/-- 'moidorelaw03.PolyTrim', WHERE WHAT IT READS IS OF BULK AT MOST 1048576: true; the input reads as it did. -/
def polyTrimUptoRow : OpenClaim := { program := "ytgdnkbigdggbaaa", sum := "eae5bb23c627dc1fbb37b1f2814b32b8868560f52a4b84af81f6d54d6ae60eb2", func := "moidore/moidorelaw03.PolyTrim", spec := "polyTrim", inPlace := ["math/bits.Sub64", "math/bits.Add64"], unfollowed := true, recurses := true, apart := false, narrowed := true }
def PolyTrimUptoSaid : Prop := polyTrimUptoRow.holds Try.pinned (OpenSpec.upto polyTrimSpec)

/-- 'moidorelaw03.PolySums', WHERE WHAT IT READS IS OF BULK AT MOST 1048576: true; the input reads as it did. -/
def polySumsUptoRow : OpenClaim := { program := "ytgdnkbigdggbaaa", sum := "eae5bb23c627dc1fbb37b1f2814b32b8868560f52a4b84af81f6d54d6ae60eb2", func := "moidore/moidorelaw03.PolySums", spec := "polySums", inPlace := ["math/bits.Sub64", "math/bits.Add64"], unfollowed := true, recurses := true, named := ["math/bits.divideError", "math/bits.overflowError"], apart := false, narrowed := true }
def PolySumsUptoSaid : Prop := polySumsUptoRow.holds Try.pinned (OpenSpec.upto polySumsSpec)

/-- 'moidorelaw03.PolyMul', WHERE WHAT IT READS IS OF BULK AT MOST 1048576: true; the input reads as it did. -/
def polyMulUptoRow : OpenClaim := { program := "ytgdnkbigdggbaaa", sum := "eae5bb23c627dc1fbb37b1f2814b32b8868560f52a4b84af81f6d54d6ae60eb2", func := "moidore/moidorelaw03.PolyMul", spec := "polyMul", inPlace := ["math/bits.Sub64", "math/bits.Add64"], unfollowed := true, recurses := true, named := ["math/bits.divideError", "math/bits.overflowError"], apart := false, narrowed := true }
def PolyMulUptoSaid : Prop := polyMulUptoRow.holds Try.pinned (OpenSpec.upto polyMulSpec)

/-- 'moidorelaw03.PolyEval', WHERE WHAT IT READS IS OF BULK AT MOST 1048576: true; the input reads as it did. -/
def polyEvalUptoRow : OpenClaim := { program := "ytgdnkbigdggbaaa", sum := "eae5bb23c627dc1fbb37b1f2814b32b8868560f52a4b84af81f6d54d6ae60eb2", func := "moidore/moidorelaw03.PolyEval", spec := "polyEval", inPlace := ["math/bits.Sub64", "math/bits.Add64"], unfollowed := true, recurses := true, named := ["math/bits.divideError", "math/bits.overflowError"], apart := false, narrowed := true }
def PolyEvalUptoSaid : Prop := polyEvalUptoRow.holds Try.pinned (OpenSpec.upto polyEvalSpec)

/-- 'moidorelaw03.PolyDivMod', WHERE WHAT IT READS IS OF BULK AT MOST 1048576: true; the input reads as it did. -/
def polyDivModUptoRow : OpenClaim := { program := "ytgdnkbigdggbaaa", sum := "eae5bb23c627dc1fbb37b1f2814b32b8868560f52a4b84af81f6d54d6ae60eb2", func := "moidore/moidorelaw03.PolyDivMod", spec := "polyDivMod", inPlace := ["math/bits.Sub64", "math/bits.Add64"], unfollowed := true, recurses := true, named := ["math/bits.divideError", "math/bits.overflowError"], apart := false, narrowed := true }
def PolyDivModUptoSaid : Prop := polyDivModUptoRow.holds Try.pinned (OpenSpec.upto polyDivModSpec)

/-- 'moidorelaw03.PolyGCD', WHERE WHAT IT READS IS OF BULK AT MOST 1048576: true; the input reads as it did. -/
def polyGCDUptoRow : OpenClaim := { program := "ytgdnkbigdggbaaa", sum := "eae5bb23c627dc1fbb37b1f2814b32b8868560f52a4b84af81f6d54d6ae60eb2", func := "moidore/moidorelaw03.PolyGCD", spec := "polyGCD", inPlace := ["math/bits.Sub64", "math/bits.Add64"], unfollowed := true, recurses := true, named := ["math/bits.divideError", "math/bits.overflowError"], apart := false, narrowed := true }
def PolyGCDUptoSaid : Prop := polyGCDUptoRow.holds Try.pinned (OpenSpec.upto polyGCDSpec)

/-- 'moidorelaw03.PolyInterpolate', WHERE WHAT IT READS IS OF BULK AT MOST 1048576: true; the input reads as it did. -/
def polyInterpolateUptoRow : OpenClaim := { program := "ytgdnkbigdggbaaa", sum := "eae5bb23c627dc1fbb37b1f2814b32b8868560f52a4b84af81f6d54d6ae60eb2", func := "moidore/moidorelaw03.PolyInterpolate", spec := "polyInterpolate", inPlace := ["math/bits.Sub64", "math/bits.Add64"], unfollowed := true, recurses := true, named := ["math/bits.divideError", "math/bits.overflowError"], apart := false, narrowed := true }
def PolyInterpolateUptoSaid : Prop := polyInterpolateUptoRow.holds Try.pinned (OpenSpec.upto polyInterpolateSpec)

/-- 'moidorelaw03.PolyVanishing', WHERE WHAT IT READS IS OF BULK AT MOST 1048576: true; the input reads as it did. -/
def polyVanishingUptoRow : OpenClaim := { program := "ytgdnkbigdggbaaa", sum := "eae5bb23c627dc1fbb37b1f2814b32b8868560f52a4b84af81f6d54d6ae60eb2", func := "moidore/moidorelaw03.PolyVanishing", spec := "polyVanishing", inPlace := ["math/bits.Sub64", "math/bits.Add64"], unfollowed := true, recurses := true, named := ["math/bits.divideError", "math/bits.overflowError"], apart := false, narrowed := true }
def PolyVanishingUptoSaid : Prop := polyVanishingUptoRow.holds Try.pinned (OpenSpec.upto polyVanishingSpec)

/-- 'moidorelaw03.PolyRestores', WHERE WHAT IT READS IS OF BULK AT MOST 1048576: true; the input reads as it did. -/
def polyRestoresUptoRow : OpenClaim := { program := "ytgdnkbigdggbaaa", sum := "eae5bb23c627dc1fbb37b1f2814b32b8868560f52a4b84af81f6d54d6ae60eb2", func := "moidore/moidorelaw03.PolyRestores", spec := "polyRestores", inPlace := ["math/bits.Sub64", "math/bits.Add64"], unfollowed := true, recurses := true, apart := false, narrowed := true }
def PolyRestoresUptoSaid : Prop := polyRestoresUptoRow.holds Try.pinned (OpenSpec.upto polyRestoresSpec)

end Rows
end Go.Proofs.Ytgdnkbigdggbaaa
