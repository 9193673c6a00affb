/- The statement Found holds: whatever the number, the coins, the steps and the place r, sketchkeep.Found returns true, and what was handed in reads as it did. -/
import Derived.Test.YtklicjbpjigfdaaFoundX
import Derived.Test.YtklicjbpjigfdaaStepsO
namespace Go.Proofs.Ytklicjbpjigfdaa.foundDone
open Go.ChangeShapes Go.WideShapes Go.ChangeAt Go.RowKit
open Go.ChangeMaps (open_string shut_string)
set_option linter.unusedVariables false

theorem own : ownKnob Try.prog.godebug = none := by kernel_rfl
theorem laidOut : laidOutB Try.prog = true := by kernel_rfl

set_option maxRecDepth 100000 in
theorem lifted (os : Os) (started : os.Started) (H : Type) (enc : TypeId × Value → H) :
    ReturnsInHanded {} Try.checked os 6 .any (Rows.foundSpec.pre6 enc Try.prog Try.f6 Rows.foundRow.domain false) (Rows.foundSpec.post enc Try.prog Try.f6 false true false false) := by
  refine returnsInHanded_of_change_sized (C := Try.checked) own started (by kernel_rfl) Try.func6
    (ChangeSpec.witness6 (enc := enc) (C := Try.checked) false ⟨#[], #[.int .i64 0, .string ByteArray.empty, .slice none 0 0, .int .i64 0], []⟩ 8 (by kernel_rfl) (by kernel_rfl) (by kernel_rfl) (by kernel_rfl)) ?_
  intro W base args ds gs before hval0 hW hcnd hsz0 _
  have hval : ∀ (j : Nat) t v, Try.f6.params[j]? = some t → args[j]? = some v → Value.okWide Try.prog W .any base t v := hval0
  have hW' := hW
  obtain ⟨p, q, hA0, hV, rfl, hfz, hnd⟩ := hW
  have hA : DataW.TrodAll enc Try.prog W 0 (fun _ => true) true Try.f6.params.toList args.toList ds p := hA0
  rw [Try.params6] at hA hval
  obtain ⟨v0, vs0, d0, ds0, p0, q0, hargs, rfl, rfl, h0, r0⟩ := trodAll_cons hA
  obtain ⟨v1, vs1, d1, ds1, p1, q1, rfl, rfl, rfl, h1, r1⟩ := trodAll_cons r0
  obtain ⟨v2, vs2, d2, ds2, p2, q2, rfl, rfl, rfl, h2, r2⟩ := trodAll_cons r1
  obtain ⟨v3, vs3, d3, ds3, p3, q3, rfl, rfl, rfl, h3, r3⟩ := trodAll_cons r2
  obtain ⟨rfl, rfl, rfl⟩ := trodAll_nil r3
  obtain rfl : args = #[v0, v1, v2, v3] := by cases args; simp_all
  obtain ⟨rfl, rfl⟩ := trodVars_none hV
  obtain ⟨k, rfl, rfl, rfl, w0⟩ := open_int Try.underlying3 (hval 0 3 v0 rfl rfl) h0
  obtain ⟨coins, rfl, rfl, rfl, w1⟩ := open_string Try.underlying9 (hval 1 9 v1 rfl rfl) h1
  obtain ⟨ao, n, cap, rfl⟩ := okWide_slice Try.underlying22 (hval 2 22 v2 rfl rfl)
  obtain ⟨qn, rfl, rfl, rfl, w3⟩ := open_int Try.underlying3 (hval 3 3 v3 rfl rfl) h3
  have k2 := h2
  have lt2 : ∀ x ∈ p2, x.block < W.heap.size := by obtain ⟨m, hm⟩ := k2; exact DataW.trod_lt m _ _ _ hm
  have hsz : (DataW.weightsEach Try.prog [3, 9, 22, 3] [DataW.lit (.int .i64 k), .lit (.string coins.data.toList), d2, .lit (.int .i64 qn)]).all (· ≤ reachBytes) = true := by
    have e : Try.checked.prog = Try.prog := rfl
    simpa [e, Try.params6, ChangeSpec.plain, Rows.foundSpec, DataSpec.varTypes] using hsz0
  have hcs : coins.size ≤ reachBytes := by
    exact sized_string hsz (j := 1) (t := 9) (bytes := coins.data.toList) rfl rfl
  obtain ⟨⟨ss, hl, hrg, hc⟩, hd⟩ := open_steps h2
  have hn : n * 32 ≤ reachBytes := by
    rcases hd with ⟨_, rfl⟩ | ⟨elems, spare, rfl, hel⟩
    · simp
    · have := sized_slice hsz (j := 2) rfl rfl Try.underlying22
      rw [bytesStep, hel] at this
      omega
  have hre : reachBytes ≤ 140737488351232 := by decide
  obtain ⟨hk1, hk2⟩ := bounds_i64 w0
  obtain ⟨hq1, hq2⟩ := bounds_i64 w3
  clear hA0 hval0
  refine (found_walk k coins ao n cap qn ss W hk1 hk2 ⟨hq1, hq2⟩ (by omega) hl (by omega) (fun s hs => ⟨(hrg s hs).2.1, (hrg s hs).2.2.1, (hrg s hs).2.2.2⟩) hc).mono fun e W' ⟨he, bel⟩ => ?_
  subst he
  exact ⟨_, rfl, _, _, _, [], _, [], hW', trodAll_mk1 (shut_bool Try.underlying4 _), (trodAll_cons_mk (shut_int Try.underlying3 w0) (trodAll_cons_mk (shut_string Try.underlying9 w1) (trodAll_cons_mk (Below.trod laidOut (by kernel_rfl) (of_decide_eq_true (by kernel_rfl)) k2 bel lt2) (trodAll_cons_mk (shut_int Try.underlying3 w3) trodAll_mk0)))), rfl, bel.frame _, fun h => by cases h⟩

theorem over : Rows.foundRow.holds Try.pinned (OpenSpec.ofChange Rows.foundSpec) :=
  OpenClaim.holds_of_wide 6 Try.f6 rfl rfl rfl rfl rfl rfl rfl ⟨rfl, rfl, rfl, rfl, rfl⟩ rfl rfl rfl rfl rfl (by kernel_rfl) Try.func6 (by kernel_rfl)
    (of_decide_eq_true (by kernel_rfl)) (by unfold Func.isWrapper; first | (rw [if_pos (by decide +kernel)]; kernel_rfl) | (rw [if_neg (by decide +kernel)]; exact ⟨rfl, rfl⟩))
    (fun os started H enc _ => lifted os started H enc)

end Go.Proofs.Ytklicjbpjigfdaa.foundDone

namespace Go.Proofs.Ytklicjbpjigfdaa
/-- The statement. -/
theorem found_holds : Rows.FoundSaid := foundDone.over
#print axioms found_holds
end Go.Proofs.Ytklicjbpjigfdaa
