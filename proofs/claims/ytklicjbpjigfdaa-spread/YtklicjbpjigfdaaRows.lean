/-
  No cell of these rows narrows 'for every input' (looked for: loops, veiled, ifaces, maps, wideKeys, modest, calm, conditions, laid).
  DERIVED. THE GIVEN ROWS OF THIS SEAT. 8 by the template 'for every input the law returns true; each argument reads behind the call as it read before'; 0 by the template 'total and deterministic' (their statements: YtklicjbpjigfdaaTotals.lean).
  GIVEN WITH THE SEED: the statements are not yours to turn. If you find one false, say at which input.
  Laid BY PROGRAM, IN A SANDBOX (cutbox-rows.mjs): the forced cells as the released guide's own fill.sh prints them over the translation dec5eaa6c48ad7d6… (all of the seat's roots in one cut). By AI agents, Wed Nov 11 2026. No macro, syntax, notation, axiom, sorry.
-/
import Derived.Test.YtklicjbpjigfdaaChecked
import GoSem.Claim
import GoSem.ClaimJoined
import GoSem.ClaimMapViews
import Derived.JoinedTies
import Derived.KernelRfl
namespace Go.Proofs.Ytklicjbpjigfdaa
/- THE CELL 'sum', in the pinned program and in every row, IS THE sha256 OF THE DUMP (.gsa) THAT YtklicjbpjigfdaaProg.lean LOADS. Nothing in Lean hashes anything: it is a label: what it is worth is what the hold of that sum in a sandbox is worth. -/
noncomputable def Try.pinned : Pinned := { name := "ytklicjbpjigfdaa", sum := "dec5eaa6c48ad7d66fe164875188f7c123ee704f7a94130dd1f8e50268d7b571", checked := Try.checked }
namespace Rows
def none {H : Type} : Left H := { results := [], args := [] }

/-- 'sketchkeep.Weighs': WHATEVER THE INPUT: true; the input reads as it did. -/
def weighsSpec : ChangeSpec := { name := "weighs", fn := fun _ => fun
  | [d1, d2, d3] => { results := [.lit (.bool true)], args := [d1, d2, d3] }
  | _ => none }
def weighsRow : OpenClaim := { program := "ytklicjbpjigfdaa", sum := "dec5eaa6c48ad7d66fe164875188f7c123ee704f7a94130dd1f8e50268d7b571", func := "sketch/sketchkeep.Weighs", spec := "weighs", apart := false }
def WeighsSaid : Prop := weighsRow.holds Try.pinned (OpenSpec.ofChange weighsSpec)

/-- ITS FALSE NEIGHBOUR: 'it returns false'. Refute it at one input. -/
def weighsWrong : ChangeSpec := { name := "weighs", fn := fun _ => fun
  | [d1, d2, d3] => { results := [.lit (.bool false)], args := [d1, d2, d3] }
  | _ => none }
def WeighsWrongFalsely : Prop := weighsRow.holds Try.pinned (OpenSpec.ofChange weighsWrong)

/-- 'sketchkeep.Space': WHATEVER THE INPUT: true; the input reads as it did. -/
def spaceSpec : ChangeSpec := { name := "space", fn := fun _ => fun
  | [d1, d2, d3] => { results := [.lit (.bool true)], args := [d1, d2, d3] }
  | _ => none }
def spaceRow : OpenClaim := { program := "ytklicjbpjigfdaa", sum := "dec5eaa6c48ad7d66fe164875188f7c123ee704f7a94130dd1f8e50268d7b571", func := "sketch/sketchkeep.Space", spec := "space", apart := false }
def SpaceSaid : Prop := spaceRow.holds Try.pinned (OpenSpec.ofChange spaceSpec)

/-- ITS FALSE NEIGHBOUR: 'it returns false'. Refute it at one input. -/
def spaceWrong : ChangeSpec := { name := "space", fn := fun _ => fun
  | [d1, d2, d3] => { results := [.lit (.bool false)], args := [d1, d2, d3] }
  | _ => none }
def SpaceWrongFalsely : Prop := spaceRow.holds Try.pinned (OpenSpec.ofChange spaceWrong)

/-- 'sketchkeep.Within': WHATEVER THE INPUT: true; the input reads as it did. -/
def withinSpec : ChangeSpec := { name := "within", fn := fun _ => fun
  | [d1, d2, d3, d4] => { results := [.lit (.bool true)], args := [d1, d2, d3, d4] }
  | _ => none }
def withinRow : OpenClaim := { program := "ytklicjbpjigfdaa", sum := "dec5eaa6c48ad7d66fe164875188f7c123ee704f7a94130dd1f8e50268d7b571", func := "sketch/sketchkeep.Within", spec := "within", apart := false }
def WithinSaid : Prop := withinRow.holds Try.pinned (OpenSpec.ofChange withinSpec)

/-- ITS FALSE NEIGHBOUR: 'it returns false'. Refute it at one input. -/
def withinWrong : ChangeSpec := { name := "within", fn := fun _ => fun
  | [d1, d2, d3, d4] => { results := [.lit (.bool false)], args := [d1, d2, d3, d4] }
  | _ => none }
def WithinWrongFalsely : Prop := withinRow.holds Try.pinned (OpenSpec.ofChange withinWrong)

/-- 'sketchkeep.Found': WHATEVER THE INPUT: true; the input reads as it did. -/
def foundSpec : ChangeSpec := { name := "found", fn := fun _ => fun
  | [d1, d2, d3, d4] => { results := [.lit (.bool true)], args := [d1, d2, d3, d4] }
  | _ => none }
def foundRow : OpenClaim := { program := "ytklicjbpjigfdaa", sum := "dec5eaa6c48ad7d66fe164875188f7c123ee704f7a94130dd1f8e50268d7b571", func := "sketch/sketchkeep.Found", spec := "found", apart := false }
def FoundSaid : Prop := foundRow.holds Try.pinned (OpenSpec.ofChange foundSpec)

/-- ITS FALSE NEIGHBOUR: 'it returns false'. Refute it at one input. -/
def foundWrong : ChangeSpec := { name := "found", fn := fun _ => fun
  | [d1, d2, d3, d4] => { results := [.lit (.bool false)], args := [d1, d2, d3, d4] }
  | _ => none }
def FoundWrongFalsely : Prop := foundRow.holds Try.pinned (OpenSpec.ofChange foundWrong)

/-- 'sketchkeep.Fair': WHATEVER THE INPUT: true; the input reads as it did. -/
def fairSpec : ChangeSpec := { name := "fair", fn := fun _ => fun
  | [d1, d2, d3, d4, d5] => { results := [.lit (.bool true)], args := [d1, d2, d3, d4, d5] }
  | _ => none }
def fairRow : OpenClaim := { program := "ytklicjbpjigfdaa", sum := "dec5eaa6c48ad7d66fe164875188f7c123ee704f7a94130dd1f8e50268d7b571", func := "sketch/sketchkeep.Fair", spec := "fair", apart := false }
def FairSaid : Prop := fairRow.holds Try.pinned (OpenSpec.ofChange fairSpec)

/-- ITS FALSE NEIGHBOUR: 'it returns false'. Refute it at one input. -/
def fairWrong : ChangeSpec := { name := "fair", fn := fun _ => fun
  | [d1, d2, d3, d4, d5] => { results := [.lit (.bool false)], args := [d1, d2, d3, d4, d5] }
  | _ => none }
def FairWrongFalsely : Prop := fairRow.holds Try.pinned (OpenSpec.ofChange fairWrong)

/-- 'sketchkeep.Spread': WHATEVER THE INPUT: true; the input reads as it did. -/
def spreadSpec : ChangeSpec := { name := "spread", fn := fun _ => fun
  | [d1, d2, d3] => { results := [.lit (.bool true)], args := [d1, d2, d3] }
  | _ => none }
def spreadRow : OpenClaim := { program := "ytklicjbpjigfdaa", sum := "dec5eaa6c48ad7d66fe164875188f7c123ee704f7a94130dd1f8e50268d7b571", func := "sketch/sketchkeep.Spread", spec := "spread", apart := false }
def SpreadSaid : Prop := spreadRow.holds Try.pinned (OpenSpec.ofChange spreadSpec)

/-- ITS FALSE NEIGHBOUR: 'it returns false'. Refute it at one input. -/
def spreadWrong : ChangeSpec := { name := "spread", fn := fun _ => fun
  | [d1, d2, d3] => { results := [.lit (.bool false)], args := [d1, d2, d3] }
  | _ => none }
def SpreadWrongFalsely : Prop := spreadRow.holds Try.pinned (OpenSpec.ofChange spreadWrong)

/-- 'sketchkeep.Sharp': WHATEVER THE INPUT: true; the input reads as it did. -/
def sharpSpec : ChangeSpec := { name := "sharp", fn := fun _ => fun
  | [d1, d2, d3] => { results := [.lit (.bool true)], args := [d1, d2, d3] }
  | _ => none }
def sharpRow : OpenClaim := { program := "ytklicjbpjigfdaa", sum := "dec5eaa6c48ad7d66fe164875188f7c123ee704f7a94130dd1f8e50268d7b571", func := "sketch/sketchkeep.Sharp", spec := "sharp", apart := false }
def SharpSaid : Prop := sharpRow.holds Try.pinned (OpenSpec.ofChange sharpSpec)

/-- ITS FALSE NEIGHBOUR: 'it returns false'. Refute it at one input. -/
def sharpWrong : ChangeSpec := { name := "sharp", fn := fun _ => fun
  | [d1, d2, d3] => { results := [.lit (.bool false)], args := [d1, d2, d3] }
  | _ => none }
def SharpWrongFalsely : Prop := sharpRow.holds Try.pinned (OpenSpec.ofChange sharpWrong)

/-- 'sketchkeep.Shape': WHATEVER THE INPUT: true; the input reads as it did. -/
def shapeSpec : ChangeSpec := { name := "shape", fn := fun _ => fun
  | [d1, d2, d3, d4, d5] => { results := [.lit (.bool true)], args := [d1, d2, d3, d4, d5] }
  | _ => none }
def shapeRow : OpenClaim := { program := "ytklicjbpjigfdaa", sum := "dec5eaa6c48ad7d66fe164875188f7c123ee704f7a94130dd1f8e50268d7b571", func := "sketch/sketchkeep.Shape", spec := "shape", apart := false }
def ShapeSaid : Prop := shapeRow.holds Try.pinned (OpenSpec.ofChange shapeSpec)

/-- ITS FALSE NEIGHBOUR: 'it returns false'. Refute it at one input. -/
def shapeWrong : ChangeSpec := { name := "shape", fn := fun _ => fun
  | [d1, d2, d3, d4, d5] => { results := [.lit (.bool false)], args := [d1, d2, d3, d4, d5] }
  | _ => none }
def ShapeWrongFalsely : Prop := shapeRow.holds Try.pinned (OpenSpec.ofChange shapeWrong)

/- THE SECOND FORM. 'bulk': how many values and letters a reading holds, each counted each time it is reached (what is shared counts as often as it is met; a slice's spare places count too). A statement '..UptoSaid' is the law's where the arguments, and the package variables that the reading takes, are together of bulk at most 1048576: NARROWER than '..Said'. Prove '..Said' where nothing that the law and all that it calls make is longer than what came in: it says more and counts as full. Else prove '..UptoSaid'. A law counts once. -/
mutual
def uptoBulk {H : Type} : DataW H → Nat
  | .lit (.string bytes) => bytes.length + 1
  | .lit _ => 1
  | .nil => 1
  | .ptr d => uptoBulk d + 1
  | .slice elems spare => uptoBulkAll elems + uptoBulkAll spare + 1
  | .agg parts => uptoBulkAll parts + 1
  | .iface _ d => uptoBulk d + 1
  | .map entries => uptoBulkEntries entries + 1
  | .held _ => 1
def uptoBulkAll {H : Type} : List (DataW H) → Nat
  | [] => 0
  | d :: r => uptoBulk d + uptoBulkAll r
def uptoBulkEntries {H : Type} : List (Lit × DataW H) → Nat
  | [] => 0
  | x :: r => uptoBulkEntry x + uptoBulkEntries r
def uptoBulkEntry {H : Type} : Lit × DataW H → Nat
  | (.string bytes, d) => bytes.length + uptoBulk d + 1
  | (_, d) => uptoBulk d + 1
 end
def uptoSmall : (H : Type) → List (DataW H) → Bool := fun _ ds => decide (uptoBulkAll ds ≤ 1048576)
def OpenSpec.upto (s : _root_.Go.ChangeSpec) : _root_.Go.OpenSpec := { _root_.Go.OpenSpec.ofChange s with cond := some uptoSmall }

/-- 'sketchkeep.Weighs', WHERE WHAT IT READS IS OF BULK AT MOST 1048576: true; the input reads as it did. -/
def weighsUptoRow : OpenClaim := { program := "ytklicjbpjigfdaa", sum := "dec5eaa6c48ad7d66fe164875188f7c123ee704f7a94130dd1f8e50268d7b571", func := "sketch/sketchkeep.Weighs", spec := "weighs", apart := false, narrowed := true }
def WeighsUptoSaid : Prop := weighsUptoRow.holds Try.pinned (OpenSpec.upto weighsSpec)

/-- 'sketchkeep.Space', WHERE WHAT IT READS IS OF BULK AT MOST 1048576: true; the input reads as it did. -/
def spaceUptoRow : OpenClaim := { program := "ytklicjbpjigfdaa", sum := "dec5eaa6c48ad7d66fe164875188f7c123ee704f7a94130dd1f8e50268d7b571", func := "sketch/sketchkeep.Space", spec := "space", apart := false, narrowed := true }
def SpaceUptoSaid : Prop := spaceUptoRow.holds Try.pinned (OpenSpec.upto spaceSpec)

/-- 'sketchkeep.Within', WHERE WHAT IT READS IS OF BULK AT MOST 1048576: true; the input reads as it did. -/
def withinUptoRow : OpenClaim := { program := "ytklicjbpjigfdaa", sum := "dec5eaa6c48ad7d66fe164875188f7c123ee704f7a94130dd1f8e50268d7b571", func := "sketch/sketchkeep.Within", spec := "within", apart := false, narrowed := true }
def WithinUptoSaid : Prop := withinUptoRow.holds Try.pinned (OpenSpec.upto withinSpec)

/-- 'sketchkeep.Found', WHERE WHAT IT READS IS OF BULK AT MOST 1048576: true; the input reads as it did. -/
def foundUptoRow : OpenClaim := { program := "ytklicjbpjigfdaa", sum := "dec5eaa6c48ad7d66fe164875188f7c123ee704f7a94130dd1f8e50268d7b571", func := "sketch/sketchkeep.Found", spec := "found", apart := false, narrowed := true }
def FoundUptoSaid : Prop := foundUptoRow.holds Try.pinned (OpenSpec.upto foundSpec)

/-- 'sketchkeep.Fair', WHERE WHAT IT READS IS OF BULK AT MOST 1048576: true; the input reads as it did. -/
def fairUptoRow : OpenClaim := { program := "ytklicjbpjigfdaa", sum := "dec5eaa6c48ad7d66fe164875188f7c123ee704f7a94130dd1f8e50268d7b571", func := "sketch/sketchkeep.Fair", spec := "fair", apart := false, narrowed := true }
def FairUptoSaid : Prop := fairUptoRow.holds Try.pinned (OpenSpec.upto fairSpec)

/-- 'sketchkeep.Spread', WHERE WHAT IT READS IS OF BULK AT MOST 1048576: true; the input reads as it did. -/
def spreadUptoRow : OpenClaim := { program := "ytklicjbpjigfdaa", sum := "dec5eaa6c48ad7d66fe164875188f7c123ee704f7a94130dd1f8e50268d7b571", func := "sketch/sketchkeep.Spread", spec := "spread", apart := false, narrowed := true }
def SpreadUptoSaid : Prop := spreadUptoRow.holds Try.pinned (OpenSpec.upto spreadSpec)

/-- 'sketchkeep.Sharp', WHERE WHAT IT READS IS OF BULK AT MOST 1048576: true; the input reads as it did. -/
def sharpUptoRow : OpenClaim := { program := "ytklicjbpjigfdaa", sum := "dec5eaa6c48ad7d66fe164875188f7c123ee704f7a94130dd1f8e50268d7b571", func := "sketch/sketchkeep.Sharp", spec := "sharp", apart := false, narrowed := true }
def SharpUptoSaid : Prop := sharpUptoRow.holds Try.pinned (OpenSpec.upto sharpSpec)

/-- 'sketchkeep.Shape', WHERE WHAT IT READS IS OF BULK AT MOST 1048576: true; the input reads as it did. -/
def shapeUptoRow : OpenClaim := { program := "ytklicjbpjigfdaa", sum := "dec5eaa6c48ad7d66fe164875188f7c123ee704f7a94130dd1f8e50268d7b571", func := "sketch/sketchkeep.Shape", spec := "shape", apart := false, narrowed := true }
def ShapeUptoSaid : Prop := shapeUptoRow.holds Try.pinned (OpenSpec.upto shapeSpec)

end Rows
end Go.Proofs.Ytklicjbpjigfdaa
