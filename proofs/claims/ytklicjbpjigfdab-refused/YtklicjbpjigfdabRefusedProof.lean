/- The statement Refused holds: whatever the room and the calls, sketchkeep.Refused returns true, and what was handed in reads as it did. -/
import Derived.Test.YtklicjbpjigfdabQ23
namespace Go.Proofs.Ytklicjbpjigfdab.refusedDone
open Go.ChangeShapes Go.WideShapes Go.ChangeAt Go.RowKit
set_option linter.unusedVariables false

theorem own : ownKnob Try.prog.godebug = none := by kernel_rfl
theorem laidOut : laidOutB Try.prog = true := by kernel_rfl

theorem walk (room : Int) (ao : Option Addr) (n cap : Nat) (cs : List Cl) (w : World) (hl : cs.length = n) (hn : n * 48 ≤ 140737488351232) (hrg : ∀ c ∈ cs, c.c ≤ 9223372036854775807 ∧ c.s.size ≤ 140737488355328) (hc : CallsAt w ao n cs) :
    Calls Try.prog 7 #[.int .i64 room, .slice ao n cap] w fun e w' => e = .returned (.bool true) ∧ Below w.heap.size w w' := by
  by_cases h1 : room < 1
  · exact refused_no room ao n cap w h1
  by_cases h2 : 8 < room
  · exact refused_no2 room ao n cap w h2
  obtain ⟨rm, rfl⟩ : ∃ rm : Nat, room = (rm : Int) := ⟨room.toNat, by omega⟩
  exact refused_yes rm ao n cap cs w (by omega) (by omega) hl hn hrg hc

set_option maxRecDepth 100000 in
theorem lifted (os : Os) (started : os.Started) (H : Type) (enc : TypeId × Value → H) :
    ReturnsInHanded {} Try.checked os 7 .any (Rows.refusedSpec.pre6 enc Try.prog Try.f7 Rows.refusedRow.domain false) (Rows.refusedSpec.post enc Try.prog Try.f7 false true false false) := by
  refine returnsInHanded_of_change_sized (C := Try.checked) own started (by kernel_rfl) Try.func7
    (ChangeSpec.witness6 (enc := enc) (C := Try.checked) false ⟨#[], #[.int .i64 0, .slice none 0 0], []⟩ 8 (by kernel_rfl) (by kernel_rfl) (by kernel_rfl) (by kernel_rfl)) ?_
  intro W base args ds gs before hval0 hW hcnd hsz0 _
  have hval : ∀ (j : Nat) t v, Try.f7.params[j]? = some t → args[j]? = some v → Value.okWide Try.prog W .any base t v := hval0
  have hW' := hW
  obtain ⟨p, q, hA0, hV, rfl, hfz, hnd⟩ := hW
  have hA : DataW.TrodAll enc Try.prog W 0 (fun _ => true) true Try.f7.params.toList args.toList ds p := hA0
  rw [Try.params7] at hA hval
  obtain ⟨v0, vs0, d0, ds0, p0, q0, hargs, rfl, rfl, h0, r0⟩ := trodAll_cons hA
  obtain ⟨v1, vs1, d1, ds1, p1, q1, rfl, rfl, rfl, h1, r1⟩ := trodAll_cons r0
  obtain ⟨rfl, rfl, rfl⟩ := trodAll_nil r1
  obtain rfl : args = #[v0, v1] := by cases args; simp_all
  obtain ⟨rfl, rfl⟩ := trodVars_none hV
  obtain ⟨room, rfl, rfl, rfl, w0⟩ := open_int Try.underlying3 (hval 0 3 v0 rfl rfl) h0
  obtain ⟨ao, n, cap, rfl⟩ := okWide_slice Try.underlying56 (hval 1 56 v1 rfl rfl)
  have k1 := h1
  have lt1 : ∀ x ∈ p1, x.block < W.heap.size := by obtain ⟨m, hm⟩ := k1; exact DataW.trod_lt m _ _ _ hm
  have hsz : (DataW.weightsEach Try.prog [3, 56] [DataW.lit (.int .i64 room), d1]).all (· ≤ reachBytes) = true := by
    have e : Try.checked.prog = Try.prog := rfl
    simpa [e, Try.params7, ChangeSpec.plain, Rows.refusedSpec, DataSpec.varTypes] using hsz0
  obtain ⟨cs, hl, hc, hrg, hss, hd⟩ := open_calls h1
  have hn : n * 48 ≤ reachBytes := by
    rcases hd with ⟨_, rfl⟩ | ⟨elems, spare, rfl, hel⟩
    · simp
    · have := sized_slice hsz (j := 1) rfl rfl Try.underlying56
      rw [bytesCall, hel] at this
      omega
  have hst : ∀ c ∈ cs, c.s.size ≤ reachBytes := fun c hc => by
    have := List.all_eq_true.1 hsz _ (DataW.weights_mem_each (j := 1) (t := 56) rfl rfl _ (hss c hc))
    simpa using this
  have hre : reachBytes ≤ 140737488351232 := by decide
  clear hA0 hval0
  refine (walk room ao n cap cs W hl (by omega) (fun c hc => ⟨(hrg c hc).2, by have := hst c hc; omega⟩) hc).mono fun e W' ⟨he, bel⟩ => ?_
  subst he
  exact ⟨_, rfl, _, _, _, [], _, [], hW', trodAll_mk1 (shut_bool Try.underlying4 _), (trodAll_cons_mk (shut_int Try.underlying3 w0) (trodAll_cons_mk (Below.trod laidOut (by kernel_rfl) (of_decide_eq_true (by kernel_rfl)) k1 bel lt1) trodAll_mk0)), rfl, bel.frame _, fun h => by cases h⟩

theorem over : Rows.refusedRow.holds Try.pinned (OpenSpec.ofChange Rows.refusedSpec) :=
  OpenClaim.holds_of_wide 7 Try.f7 rfl rfl rfl rfl rfl rfl rfl ⟨rfl, rfl, rfl, rfl, rfl⟩ rfl rfl rfl rfl rfl (by kernel_rfl) Try.func7 (by kernel_rfl)
    (of_decide_eq_true (by kernel_rfl)) (by unfold Func.isWrapper; first | (rw [if_pos (by decide +kernel)]; kernel_rfl) | (rw [if_neg (by decide +kernel)]; exact ⟨rfl, rfl⟩))
    (fun os started H enc _ => lifted os started H enc)

end Go.Proofs.Ytklicjbpjigfdab.refusedDone

namespace Go.Proofs.Ytklicjbpjigfdab
/-- The statement. -/
theorem refused_holds : Rows.RefusedSaid := refusedDone.over
#print axioms refused_holds
end Go.Proofs.Ytklicjbpjigfdab
