/-
  No cell of these rows narrows 'for every input' (looked for: loops, veiled, ifaces, maps, wideKeys, modest, calm, conditions, laid).
  DERIVED. THE GIVEN ROWS OF THIS SEAT. 5 by the template 'for every input the law returns true; each argument reads behind the call as it read before'; 0 by the template 'total and deterministic' (their statements: YtklicjbpjigfdabTotals.lean).
  GIVEN WITH THE SEED: the statements are not yours to turn. If you find one false, say at which input.
  Laid BY PROGRAM, IN A SANDBOX (cutbox-rows.mjs): the forced cells as the released guide's own fill.sh prints them over the translation 4508209a1113a6cd… (all of the seat's roots in one cut). By AI agents, Wed Nov 11 2026. No macro, syntax, notation, axiom, sorry.
-/
import Derived.Test.YtklicjbpjigfdabChecked
import GoSem.Claim
import GoSem.ClaimJoined
import GoSem.ClaimMapViews
import Derived.JoinedTies
import Derived.KernelRfl
namespace Go.Proofs.Ytklicjbpjigfdab
/- THE CELL 'sum', in the pinned program and in every row, IS THE sha256 OF THE DUMP (.gsa) THAT YtklicjbpjigfdabProg.lean LOADS. Nothing in Lean hashes anything: it is a label: what it is worth is what the hold of that sum in a sandbox is worth. -/
noncomputable def Try.pinned : Pinned := { name := "ytklicjbpjigfdab", sum := "4508209a1113a6cd8424fe98d644de6a7713cec684c755c858ba785fdb079544", checked := Try.checked }
namespace Rows
def none {H : Type} : Left H := { results := [], args := [] }

/-- 'sketchkeep.Back': WHATEVER THE INPUT: true; the input reads as it did. -/
def backSpec : ChangeSpec := { name := "back", fn := fun _ => fun
  | [d1, d2, d3, d4, d5, d6] => { results := [.lit (.bool true)], args := [d1, d2, d3, d4, d5, d6] }
  | _ => none }
def backRow : OpenClaim := { program := "ytklicjbpjigfdab", sum := "4508209a1113a6cd8424fe98d644de6a7713cec684c755c858ba785fdb079544", func := "sketch/sketchkeep.Back", spec := "back", apart := false }
def BackSaid : Prop := backRow.holds Try.pinned (OpenSpec.ofChange backSpec)

/-- ITS FALSE NEIGHBOUR: 'it returns false'. Refute it at one input. -/
def backWrong : ChangeSpec := { name := "back", fn := fun _ => fun
  | [d1, d2, d3, d4, d5, d6] => { results := [.lit (.bool false)], args := [d1, d2, d3, d4, d5, d6] }
  | _ => none }
def BackWrongFalsely : Prop := backRow.holds Try.pinned (OpenSpec.ofChange backWrong)

/-- 'sketchkeep.Marred': WHATEVER THE INPUT: true; the input reads as it did. -/
def marredSpec : ChangeSpec := { name := "marred", fn := fun _ => fun
  | [d1, d2, d3, d4, d5, d6] => { results := [.lit (.bool true)], args := [d1, d2, d3, d4, d5, d6] }
  | _ => none }
def marredRow : OpenClaim := { program := "ytklicjbpjigfdab", sum := "4508209a1113a6cd8424fe98d644de6a7713cec684c755c858ba785fdb079544", func := "sketch/sketchkeep.Marred", spec := "marred", apart := false }
def MarredSaid : Prop := marredRow.holds Try.pinned (OpenSpec.ofChange marredSpec)

/-- ITS FALSE NEIGHBOUR: 'it returns false'. Refute it at one input. -/
def marredWrong : ChangeSpec := { name := "marred", fn := fun _ => fun
  | [d1, d2, d3, d4, d5, d6] => { results := [.lit (.bool false)], args := [d1, d2, d3, d4, d5, d6] }
  | _ => none }
def MarredWrongFalsely : Prop := marredRow.holds Try.pinned (OpenSpec.ofChange marredWrong)

/-- 'sketchkeep.Total': WHATEVER THE INPUT: true; the input reads as it did. -/
def totalSpec : ChangeSpec := { name := "total", fn := fun _ => fun
  | [d] => { results := [.lit (.bool true)], args := [d] }
  | _ => none }
def totalRow : OpenClaim := { program := "ytklicjbpjigfdab", sum := "4508209a1113a6cd8424fe98d644de6a7713cec684c755c858ba785fdb079544", func := "sketch/sketchkeep.Total", spec := "total", apart := false }
def TotalSaid : Prop := totalRow.holds Try.pinned (OpenSpec.ofChange totalSpec)

/-- ITS FALSE NEIGHBOUR: 'it returns false'. Refute it at one input. -/
def totalWrong : ChangeSpec := { name := "total", fn := fun _ => fun
  | [d] => { results := [.lit (.bool false)], args := [d] }
  | _ => none }
def TotalWrongFalsely : Prop := totalRow.holds Try.pinned (OpenSpec.ofChange totalWrong)

/-- 'sketchkeep.Once': WHATEVER THE INPUT: true; the input reads as it did. -/
def onceSpec : ChangeSpec := { name := "once", fn := fun _ => fun
  | [d1, d2, d3, d4, d5, d6, d7] => { results := [.lit (.bool true)], args := [d1, d2, d3, d4, d5, d6, d7] }
  | _ => none }
def onceRow : OpenClaim := { program := "ytklicjbpjigfdab", sum := "4508209a1113a6cd8424fe98d644de6a7713cec684c755c858ba785fdb079544", func := "sketch/sketchkeep.Once", spec := "once", apart := false }
def OnceSaid : Prop := onceRow.holds Try.pinned (OpenSpec.ofChange onceSpec)

/-- ITS FALSE NEIGHBOUR: 'it returns false'. Refute it at one input. -/
def onceWrong : ChangeSpec := { name := "once", fn := fun _ => fun
  | [d1, d2, d3, d4, d5, d6, d7] => { results := [.lit (.bool false)], args := [d1, d2, d3, d4, d5, d6, d7] }
  | _ => none }
def OnceWrongFalsely : Prop := onceRow.holds Try.pinned (OpenSpec.ofChange onceWrong)

/-- 'sketchkeep.Refused': WHATEVER THE INPUT: true; the input reads as it did. -/
def refusedSpec : ChangeSpec := { name := "refused", fn := fun _ => fun
  | [d1, d2] => { results := [.lit (.bool true)], args := [d1, d2] }
  | _ => none }
def refusedRow : OpenClaim := { program := "ytklicjbpjigfdab", sum := "4508209a1113a6cd8424fe98d644de6a7713cec684c755c858ba785fdb079544", func := "sketch/sketchkeep.Refused", spec := "refused", apart := false }
def RefusedSaid : Prop := refusedRow.holds Try.pinned (OpenSpec.ofChange refusedSpec)

/-- ITS FALSE NEIGHBOUR: 'it returns false'. Refute it at one input. -/
def refusedWrong : ChangeSpec := { name := "refused", fn := fun _ => fun
  | [d1, d2] => { results := [.lit (.bool false)], args := [d1, d2] }
  | _ => none }
def RefusedWrongFalsely : Prop := refusedRow.holds Try.pinned (OpenSpec.ofChange refusedWrong)

/- THE SECOND FORM. 'bulk': how many values and letters a reading holds, each counted each time it is reached (what is shared counts as often as it is met; a slice's spare places count too). A statement '..UptoSaid' is the law's where the arguments, and the package variables that the reading takes, are together of bulk at most 1048576: NARROWER than '..Said'. Prove '..Said' where nothing that the law and all that it calls make is longer than what came in: it says more and counts as full. Else prove '..UptoSaid'. A law counts once. -/
mutual
def uptoBulk {H : Type} : DataW H → Nat
  | .lit (.string bytes) => bytes.length + 1
  | .lit _ => 1
  | .nil => 1
  | .ptr d => uptoBulk d + 1
  | .slice elems spare => uptoBulkAll elems + uptoBulkAll spare + 1
  | .agg parts => uptoBulkAll parts + 1
  | .iface _ d => uptoBulk d + 1
  | .map entries => uptoBulkEntries entries + 1
  | .held _ => 1
def uptoBulkAll {H : Type} : List (DataW H) → Nat
  | [] => 0
  | d :: r => uptoBulk d + uptoBulkAll r
def uptoBulkEntries {H : Type} : List (Lit × DataW H) → Nat
  | [] => 0
  | x :: r => uptoBulkEntry x + uptoBulkEntries r
def uptoBulkEntry {H : Type} : Lit × DataW H → Nat
  | (.string bytes, d) => bytes.length + uptoBulk d + 1
  | (_, d) => uptoBulk d + 1
 end
def uptoSmall : (H : Type) → List (DataW H) → Bool := fun _ ds => decide (uptoBulkAll ds ≤ 1048576)
def OpenSpec.upto (s : _root_.Go.ChangeSpec) : _root_.Go.OpenSpec := { _root_.Go.OpenSpec.ofChange s with cond := some uptoSmall }

/-- 'sketchkeep.Back', WHERE WHAT IT READS IS OF BULK AT MOST 1048576: true; the input reads as it did. -/
def backUptoRow : OpenClaim := { program := "ytklicjbpjigfdab", sum := "4508209a1113a6cd8424fe98d644de6a7713cec684c755c858ba785fdb079544", func := "sketch/sketchkeep.Back", spec := "back", apart := false, narrowed := true }
def BackUptoSaid : Prop := backUptoRow.holds Try.pinned (OpenSpec.upto backSpec)

/-- 'sketchkeep.Marred', WHERE WHAT IT READS IS OF BULK AT MOST 1048576: true; the input reads as it did. -/
def marredUptoRow : OpenClaim := { program := "ytklicjbpjigfdab", sum := "4508209a1113a6cd8424fe98d644de6a7713cec684c755c858ba785fdb079544", func := "sketch/sketchkeep.Marred", spec := "marred", apart := false, narrowed := true }
def MarredUptoSaid : Prop := marredUptoRow.holds Try.pinned (OpenSpec.upto marredSpec)

/-- 'sketchkeep.Total', WHERE WHAT IT READS IS OF BULK AT MOST 1048576: true; the input reads as it did. -/
def totalUptoRow : OpenClaim := { program := "ytklicjbpjigfdab", sum := "4508209a1113a6cd8424fe98d644de6a7713cec684c755c858ba785fdb079544", func := "sketch/sketchkeep.Total", spec := "total", apart := false, narrowed := true }
def TotalUptoSaid : Prop := totalUptoRow.holds Try.pinned (OpenSpec.upto totalSpec)

/-- 'sketchkeep.Once', WHERE WHAT IT READS IS OF BULK AT MOST 1048576: true; the input reads as it did. -/
def onceUptoRow : OpenClaim := { program := "ytklicjbpjigfdab", sum := "4508209a1113a6cd8424fe98d644de6a7713cec684c755c858ba785fdb079544", func := "sketch/sketchkeep.Once", spec := "once", apart := false, narrowed := true }
def OnceUptoSaid : Prop := onceUptoRow.holds Try.pinned (OpenSpec.upto onceSpec)

/-- 'sketchkeep.Refused', WHERE WHAT IT READS IS OF BULK AT MOST 1048576: true; the input reads as it did. -/
def refusedUptoRow : OpenClaim := { program := "ytklicjbpjigfdab", sum := "4508209a1113a6cd8424fe98d644de6a7713cec684c755c858ba785fdb079544", func := "sketch/sketchkeep.Refused", spec := "refused", apart := false, narrowed := true }
def RefusedUptoSaid : Prop := refusedUptoRow.holds Try.pinned (OpenSpec.upto refusedSpec)

end Rows
end Go.Proofs.Ytklicjbpjigfdab
