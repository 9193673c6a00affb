/- The statement Total holds: whatever the text, sketchkeep.Total returns true, and the text reads as it did. -/
import Derived.Test.YtklicjbpjigfdabTotalX
import Derived.Test.YtklicjbpjigfdabRows
import Derived.WalkKit
import Derived.ProofKit
import Derived.OpenShut
import Derived.ShutString
import Derived.ChangeOld
import Derived.Below
import Derived.SizedLaws
import Derived.Deep.Slices
import Derived.Lib.SmallJoins
namespace Go.Proofs.Ytklicjbpjigfdab.totalDone
open Go.ChangeShapes Go.WideShapes Go.ChangeAt Go.RowKit
open Go.ChangeMaps (open_string shut_string)
set_option linter.unusedVariables false

theorem own : ownKnob Try.prog.godebug = none := by kernel_rfl
theorem laidOut : laidOutB Try.prog = true := by kernel_rfl

set_option maxRecDepth 100000 in
theorem lifted (os : Os) (started : os.Started) (H : Type) (enc : TypeId × Value → H) :
    ReturnsInHanded {} Try.checked os 5 .any (Rows.totalSpec.pre6 enc Try.prog Try.f5 Rows.totalRow.domain false) (Rows.totalSpec.post enc Try.prog Try.f5 false true false false) := by
  refine returnsInHanded_of_change_sized (C := Try.checked) own started (by kernel_rfl) Try.func5
    (ChangeSpec.witness6 (enc := enc) (C := Try.checked) false ⟨#[], #[.string ByteArray.empty], []⟩ 8 (by kernel_rfl) (by kernel_rfl) (by kernel_rfl) (by kernel_rfl)) ?_
  intro W base args ds gs before hval0 hW hcnd hsz0 _
  have hval : ∀ (j : Nat) t v, Try.f5.params[j]? = some t → args[j]? = some v → Value.okWide Try.prog W .any base t v := hval0
  have hW' := hW
  obtain ⟨p, q, hA0, hV, rfl, hfz, hnd⟩ := hW
  have hA : DataW.TrodAll enc Try.prog W 0 (fun _ => true) true Try.f5.params.toList args.toList ds p := hA0
  rw [Try.params5] at hA hval
  obtain ⟨v1, vs1, d1, ds1, p1, q1, hargs, rfl, rfl, h1, r1⟩ := trodAll_cons hA
  obtain ⟨rfl, rfl, rfl⟩ := trodAll_nil r1
  obtain rfl : args = #[v1] := by cases args; simp_all
  obtain ⟨rfl, rfl⟩ := trodVars_none hV
  obtain ⟨text, rfl, rfl, rfl, w1⟩ := open_string Try.underlying9 (hval 0 9 v1 rfl rfl) h1
  have hsz : (DataW.weightsEach (H := H) Try.prog [9] [DataW.lit (.string text.data.toList)]).all (· ≤ reachBytes) = true := by
    have e : Try.checked.prog = Try.prog := rfl
    simpa [e, Try.params5, ChangeSpec.plain, Rows.totalSpec, DataSpec.varTypes] using hsz0
  have hcs : text.size ≤ reachBytes := by
    exact sized_string hsz (j := 0) (t := 9) (bytes := text.data.toList) rfl rfl
  have hre : reachBytes ≤ 140737488351232 := by decide
  clear hA0 hval0
  refine (total_walk text W (by omega)).mono fun e W' ⟨he, bel⟩ => ?_
  subst he
  exact ⟨_, rfl, _, _, _, [], _, [], hW', trodAll_mk1 (shut_bool Try.underlying4 _), trodAll_cons_mk (shut_string Try.underlying9 w1) trodAll_mk0, rfl, bel.frame _, fun h => by cases h⟩

theorem over : Rows.totalRow.holds Try.pinned (OpenSpec.ofChange Rows.totalSpec) :=
  OpenClaim.holds_of_wide 5 Try.f5 rfl rfl rfl rfl rfl rfl rfl ⟨rfl, rfl, rfl, rfl, rfl⟩ rfl rfl rfl rfl rfl (by kernel_rfl) Try.func5 (by kernel_rfl)
    (of_decide_eq_true (by kernel_rfl)) (by unfold Func.isWrapper; first | (rw [if_pos (by decide +kernel)]; kernel_rfl) | (rw [if_neg (by decide +kernel)]; exact ⟨rfl, rfl⟩))
    (fun os started H enc _ => lifted os started H enc)

end Go.Proofs.Ytklicjbpjigfdab.totalDone

namespace Go.Proofs.Ytklicjbpjigfdab
/-- The statement. -/
theorem total_holds : Rows.TotalSaid := totalDone.over
#print axioms total_holds
end Go.Proofs.Ytklicjbpjigfdab
