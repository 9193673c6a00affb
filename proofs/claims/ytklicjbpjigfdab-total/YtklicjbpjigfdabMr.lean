/- DERIVED. What a step of the desk leaves. -/
import Derived.Test.YtklicjbpjigfdabNe
namespace Go.Proofs.Ytklicjbpjigfdab
open Go.RowKit

theorem DeskStep.bel {F : Nat → Prop} {w w' : World} {d B : Nat} {D' : Dk} (h : DeskStep F w w' d D') (hB : B ≤ w.heap.size) (hF : ∀ b, F b → B ≤ b) : Below B w w' := by
  obtain ⟨F', _, _, hf⟩ := h
  exact hf.toBelow hB hF

end Go.Proofs.Ytklicjbpjigfdab
