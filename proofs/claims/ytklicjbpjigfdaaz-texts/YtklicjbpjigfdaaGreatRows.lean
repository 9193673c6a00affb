/-
  No cell of these rows narrows 'for every input' (looked for: loops, veiled, ifaces, maps, wideKeys, modest, calm, conditions, laid).
  DERIVED. THE GIVEN ROWS OF THIS SEAT. 4 by the template 'for every input the law returns true; each argument reads behind the call as it read before'; 0 by the template 'total and deterministic' (their statements: YtklicjbpjigfdaaGreatTotals.lean).
  GIVEN WITH THE SEED: the statements are not yours to turn. If you find one false, say at which input.
  Laid BY PROGRAM, IN A SANDBOX (cutbox-rows.mjs): the forced cells as the released guide's own fill.sh prints them over the translation 76a31aaf4bb01476… (all of the seat's roots in one cut). By AI agents, Wed Nov 11 2026. No macro, syntax, notation, axiom, sorry.
-/
import Derived.Test.YtklicjbpjigfdaaGreatChecked
import GoSem.Claim
import GoSem.ClaimJoined
import GoSem.ClaimMapViews
import Derived.JoinedTies
import Derived.KernelRfl
namespace Go.Proofs.YtklicjbpjigfdaaGreat
/- THE CELL 'sum', in the pinned program and in every row, IS THE sha256 OF THE DUMP (.gsa) THAT YtklicjbpjigfdaaGreatProg.lean LOADS. Nothing in Lean hashes anything: it is a label: what it is worth is what the hold of that sum in a sandbox is worth. -/
noncomputable def Tryz.pinned : Pinned := { name := "ytklicjbpjigfdaagreat", sum := "76a31aaf4bb01476bfad6b6b4fcebd2a94fc4eef1641fd82f390598fa8292ee8", checked := Tryz.checked }
namespace Rows
def none {H : Type} : Left H := { results := [], args := [] }

/-- 'sketchlaw.Adds': WHATEVER THE INPUT: true; the input reads as it did. -/
def addsSpec : ChangeSpec := { name := "adds", fn := fun _ => fun
  | [d1, d2] => { results := [.lit (.bool true)], args := [d1, d2] }
  | _ => none }
def addsRow : OpenClaim := { program := "ytklicjbpjigfdaagreat", sum := "76a31aaf4bb01476bfad6b6b4fcebd2a94fc4eef1641fd82f390598fa8292ee8", func := "sketch/sketchlaw.Adds", spec := "adds", apart := false }
def AddsSaid : Prop := addsRow.holds Tryz.pinned (OpenSpec.ofChange addsSpec)

/-- ITS FALSE NEIGHBOUR: 'it returns false'. Refute it at one input. -/
def addsWrong : ChangeSpec := { name := "adds", fn := fun _ => fun
  | [d1, d2] => { results := [.lit (.bool false)], args := [d1, d2] }
  | _ => none }
def AddsWrongFalsely : Prop := addsRow.holds Tryz.pinned (OpenSpec.ofChange addsWrong)

/-- 'sketchlaw.Merges': WHATEVER THE INPUT: true; the input reads as it did. -/
def mergesSpec : ChangeSpec := { name := "merges", fn := fun _ => fun
  | [d1, d2] => { results := [.lit (.bool true)], args := [d1, d2] }
  | _ => none }
def mergesRow : OpenClaim := { program := "ytklicjbpjigfdaagreat", sum := "76a31aaf4bb01476bfad6b6b4fcebd2a94fc4eef1641fd82f390598fa8292ee8", func := "sketch/sketchlaw.Merges", spec := "merges", apart := false }
def MergesSaid : Prop := mergesRow.holds Tryz.pinned (OpenSpec.ofChange mergesSpec)

/-- ITS FALSE NEIGHBOUR: 'it returns false'. Refute it at one input. -/
def mergesWrong : ChangeSpec := { name := "merges", fn := fun _ => fun
  | [d1, d2] => { results := [.lit (.bool false)], args := [d1, d2] }
  | _ => none }
def MergesWrongFalsely : Prop := mergesRow.holds Tryz.pinned (OpenSpec.ofChange mergesWrong)

/-- 'sketchlaw.Ranks': WHATEVER THE INPUT: true; the input reads as it did. -/
def ranksSpec : ChangeSpec := { name := "ranks", fn := fun _ => fun
  | [d1, d2] => { results := [.lit (.bool true)], args := [d1, d2] }
  | _ => none }
def ranksRow : OpenClaim := { program := "ytklicjbpjigfdaagreat", sum := "76a31aaf4bb01476bfad6b6b4fcebd2a94fc4eef1641fd82f390598fa8292ee8", func := "sketch/sketchlaw.Ranks", spec := "ranks", apart := false }
def RanksSaid : Prop := ranksRow.holds Tryz.pinned (OpenSpec.ofChange ranksSpec)

/-- ITS FALSE NEIGHBOUR: 'it returns false'. Refute it at one input. -/
def ranksWrong : ChangeSpec := { name := "ranks", fn := fun _ => fun
  | [d1, d2] => { results := [.lit (.bool false)], args := [d1, d2] }
  | _ => none }
def RanksWrongFalsely : Prop := ranksRow.holds Tryz.pinned (OpenSpec.ofChange ranksWrong)

/-- 'sketchlaw.Texts': WHATEVER THE INPUT: true; the input reads as it did. -/
def textsSpec : ChangeSpec := { name := "texts", fn := fun _ => fun
  | [d1, d2] => { results := [.lit (.bool true)], args := [d1, d2] }
  | _ => none }
def textsRow : OpenClaim := { program := "ytklicjbpjigfdaagreat", sum := "76a31aaf4bb01476bfad6b6b4fcebd2a94fc4eef1641fd82f390598fa8292ee8", func := "sketch/sketchlaw.Texts", spec := "texts", apart := false }
def TextsSaid : Prop := textsRow.holds Tryz.pinned (OpenSpec.ofChange textsSpec)

/-- ITS FALSE NEIGHBOUR: 'it returns false'. Refute it at one input. -/
def textsWrong : ChangeSpec := { name := "texts", fn := fun _ => fun
  | [d1, d2] => { results := [.lit (.bool false)], args := [d1, d2] }
  | _ => none }
def TextsWrongFalsely : Prop := textsRow.holds Tryz.pinned (OpenSpec.ofChange textsWrong)

/- THE SECOND FORM. 'bulk': how many values and letters a reading holds, each counted each time it is reached (what is shared counts as often as it is met; a slice's spare places count too). A statement '..UptoSaid' is the law's where the arguments, and the package variables that the reading takes, are together of bulk at most 1048576: NARROWER than '..Said'. Prove '..Said' where nothing that the law and all that it calls make is longer than what came in: it says more and counts as full. Else prove '..UptoSaid'. A law counts once. -/
mutual
def uptoBulk {H : Type} : DataW H → Nat
  | .lit (.string bytes) => bytes.length + 1
  | .lit _ => 1
  | .nil => 1
  | .ptr d => uptoBulk d + 1
  | .slice elems spare => uptoBulkAll elems + uptoBulkAll spare + 1
  | .agg parts => uptoBulkAll parts + 1
  | .iface _ d => uptoBulk d + 1
  | .map entries => uptoBulkEntries entries + 1
  | .held _ => 1
def uptoBulkAll {H : Type} : List (DataW H) → Nat
  | [] => 0
  | d :: r => uptoBulk d + uptoBulkAll r
def uptoBulkEntries {H : Type} : List (Lit × DataW H) → Nat
  | [] => 0
  | x :: r => uptoBulkEntry x + uptoBulkEntries r
def uptoBulkEntry {H : Type} : Lit × DataW H → Nat
  | (.string bytes, d) => bytes.length + uptoBulk d + 1
  | (_, d) => uptoBulk d + 1
 end
def uptoSmall : (H : Type) → List (DataW H) → Bool := fun _ ds => decide (uptoBulkAll ds ≤ 1048576)
def OpenSpec.upto (s : _root_.Go.ChangeSpec) : _root_.Go.OpenSpec := { _root_.Go.OpenSpec.ofChange s with cond := some uptoSmall }

/-- 'sketchlaw.Adds', WHERE WHAT IT READS IS OF BULK AT MOST 1048576: true; the input reads as it did. -/
def addsUptoRow : OpenClaim := { program := "ytklicjbpjigfdaagreat", sum := "76a31aaf4bb01476bfad6b6b4fcebd2a94fc4eef1641fd82f390598fa8292ee8", func := "sketch/sketchlaw.Adds", spec := "adds", apart := false, narrowed := true }
def AddsUptoSaid : Prop := addsUptoRow.holds Tryz.pinned (OpenSpec.upto addsSpec)

/-- 'sketchlaw.Merges', WHERE WHAT IT READS IS OF BULK AT MOST 1048576: true; the input reads as it did. -/
def mergesUptoRow : OpenClaim := { program := "ytklicjbpjigfdaagreat", sum := "76a31aaf4bb01476bfad6b6b4fcebd2a94fc4eef1641fd82f390598fa8292ee8", func := "sketch/sketchlaw.Merges", spec := "merges", apart := false, narrowed := true }
def MergesUptoSaid : Prop := mergesUptoRow.holds Tryz.pinned (OpenSpec.upto mergesSpec)

/-- 'sketchlaw.Ranks', WHERE WHAT IT READS IS OF BULK AT MOST 1048576: true; the input reads as it did. -/
def ranksUptoRow : OpenClaim := { program := "ytklicjbpjigfdaagreat", sum := "76a31aaf4bb01476bfad6b6b4fcebd2a94fc4eef1641fd82f390598fa8292ee8", func := "sketch/sketchlaw.Ranks", spec := "ranks", apart := false, narrowed := true }
def RanksUptoSaid : Prop := ranksUptoRow.holds Tryz.pinned (OpenSpec.upto ranksSpec)

/-- 'sketchlaw.Texts', WHERE WHAT IT READS IS OF BULK AT MOST 1048576: true; the input reads as it did. -/
def textsUptoRow : OpenClaim := { program := "ytklicjbpjigfdaagreat", sum := "76a31aaf4bb01476bfad6b6b4fcebd2a94fc4eef1641fd82f390598fa8292ee8", func := "sketch/sketchlaw.Texts", spec := "texts", apart := false, narrowed := true }
def TextsUptoSaid : Prop := textsUptoRow.holds Tryz.pinned (OpenSpec.upto textsSpec)

end Rows
end Go.Proofs.YtklicjbpjigfdaaGreat
