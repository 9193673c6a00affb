/- The statement Once holds: whatever the number, the coins, the steps, the sender, its number, the deliveries and the number q, sketchkeep.Once returns true, and what was handed in reads as it did. -/
import Derived.Test.YtklicjbpjigfdabNj
import Derived.Test.YtklicjbpjigfdabStepsO
namespace Go.Proofs.Ytklicjbpjigfdab.onceDone
open Go.ChangeShapes Go.WideShapes Go.ChangeAt Go.RowKit
open Go.ChangeMaps (open_string shut_string)
set_option linter.unusedVariables false

theorem own : ownKnob Try.prog.godebug = none := by kernel_rfl
theorem laidOut : laidOutB Try.prog = true := by kernel_rfl

set_option maxRecDepth 100000 in
theorem lifted (os : Os) (started : os.Started) (H : Type) (enc : TypeId × Value → H) :
    ReturnsInHanded {} Try.checked os 6 .any (Rows.onceSpec.pre6 enc Try.prog Try.f6 Rows.onceRow.domain false) (Rows.onceSpec.post enc Try.prog Try.f6 false true false false) := by
  refine returnsInHanded_of_change_sized (C := Try.checked) own started (by kernel_rfl) Try.func6
    (ChangeSpec.witness6 (enc := enc) (C := Try.checked) false ⟨#[], #[.int .i64 0, .string ByteArray.empty, .slice none 0 0, .int .i64 0, .int .i64 0, .slice none 0 0, .int .i64 0], []⟩ 8 (by kernel_rfl) (by kernel_rfl) (by kernel_rfl) (by kernel_rfl)) ?_
  intro W base args ds gs before hval0 hW hcnd hsz0 _
  have hval : ∀ (j : Nat) t v, Try.f6.params[j]? = some t → args[j]? = some v → Value.okWide Try.prog W .any base t v := hval0
  have hW' := hW
  obtain ⟨p, q, hA0, hV, rfl, hfz, hnd⟩ := hW
  have hA : DataW.TrodAll enc Try.prog W 0 (fun _ => true) true Try.f6.params.toList args.toList ds p := hA0
  rw [Try.params6] at hA hval
  obtain ⟨v0, vs0, d0, ds0, p0, q0, hargs, rfl, rfl, h0, r0⟩ := trodAll_cons hA
  obtain ⟨v1, vs1, d1, ds1, p1, q1, rfl, rfl, rfl, h1, r1⟩ := trodAll_cons r0
  obtain ⟨v2, vs2, d2, ds2, p2, q2, rfl, rfl, rfl, h2, r2⟩ := trodAll_cons r1
  obtain ⟨v3, vs3, d3, ds3, p3, q3, rfl, rfl, rfl, h3, r3⟩ := trodAll_cons r2
  obtain ⟨v6, vs6, d6, ds6, p6, q6, rfl, rfl, rfl, h6, r6⟩ := trodAll_cons r3
  obtain ⟨v4, vs4, d4, ds4, p4, q4, rfl, rfl, rfl, h4, r4⟩ := trodAll_cons r6
  obtain ⟨v5, vs5, d5, ds5, p5, q5, rfl, rfl, rfl, h5, r5⟩ := trodAll_cons r4
  obtain ⟨rfl, rfl, rfl⟩ := trodAll_nil r5
  obtain rfl : args = #[v0, v1, v2, v3, v6, v4, v5] := by cases args; simp_all
  obtain ⟨rfl, rfl⟩ := trodVars_none hV
  obtain ⟨k, rfl, rfl, rfl, w0⟩ := open_int Try.underlying3 (hval 0 3 v0 rfl rfl) h0
  obtain ⟨coins, rfl, rfl, rfl, w1⟩ := open_string Try.underlying9 (hval 1 9 v1 rfl rfl) h1
  obtain ⟨ao, n, cap, rfl⟩ := okWide_slice Try.underlying22 (hval 2 22 v2 rfl rfl)
  obtain ⟨xn, rfl, rfl, rfl, w3⟩ := open_int Try.underlying3 (hval 3 3 v3 rfl rfl) h3
  obtain ⟨zn, rfl, rfl, rfl, w6⟩ := open_int Try.underlying3 (hval 4 3 v6 rfl rfl) h6
  obtain ⟨bo, m, bcap, rfl⟩ := okWide_slice Try.underlying22 (hval 5 22 v4 rfl rfl)
  obtain ⟨yn, rfl, rfl, rfl, w5⟩ := open_int Try.underlying3 (hval 6 3 v5 rfl rfl) h5
  have k2 := h2
  have k4 := h4
  have lt4 : ∀ x ∈ p4, x.block < W.heap.size := by obtain ⟨m, hm⟩ := k4; exact DataW.trod_lt m _ _ _ hm
  have lt2 : ∀ x ∈ p2, x.block < W.heap.size := by obtain ⟨m, hm⟩ := k2; exact DataW.trod_lt m _ _ _ hm
  have hsz : (DataW.weightsEach Try.prog [3, 9, 22, 3, 3, 22, 3] [DataW.lit (.int .i64 k), .lit (.string coins.data.toList), d2, .lit (.int .i64 xn), .lit (.int .i64 zn), d4, .lit (.int .i64 yn)]).all (· ≤ reachBytes) = true := by
    have e : Try.checked.prog = Try.prog := rfl
    simpa [e, Try.params6, ChangeSpec.plain, Rows.onceSpec, DataSpec.varTypes] using hsz0
  have hcs : coins.size ≤ reachBytes := by
    exact sized_string hsz (j := 1) (t := 9) (bytes := coins.data.toList) rfl rfl
  obtain ⟨⟨ss, hl, hrg, hc⟩, hd⟩ := open_steps h2
  have hn : n * 32 ≤ reachBytes := by
    rcases hd with ⟨_, rfl⟩ | ⟨elems, spare, rfl, hel⟩
    · simp
    · have := sized_slice hsz (j := 2) rfl rfl Try.underlying22
      rw [bytesStep, hel] at this
      omega
  obtain ⟨⟨ms, hl4, hrg4, hc4⟩, hd4⟩ := open_steps h4
  have hn4 : m * 32 ≤ reachBytes := by
    rcases hd4 with ⟨_, rfl⟩ | ⟨elems, spare, rfl, hel⟩
    · simp
    · have := sized_slice hsz (j := 5) rfl rfl Try.underlying22
      rw [bytesStep, hel] at this
      omega
  have hre : reachBytes ≤ 140737488351232 := by decide
  obtain ⟨hk1, hk2⟩ := bounds_i64 w0
  clear hA0 hval0
  refine (once_walk k coins ao bo n cap m bcap ss ms xn zn yn W hk1 hk2 (by omega) hl (by omega) (fun s hs => ⟨(hrg s hs).2.1, (hrg s hs).2.2.1, (hrg s hs).2.2.2⟩) hc hl4 (by omega) (fun s hs => ⟨(hrg4 s hs).2.1, (hrg4 s hs).2.2.1, (hrg4 s hs).2.2.2⟩) hc4 (bounds_i64 w3) (bounds_i64 w6)).mono fun e W' ⟨he, bel⟩ => ?_
  subst he
  exact ⟨_, rfl, _, _, _, [], _, [], hW', trodAll_mk1 (shut_bool Try.underlying4 _), (trodAll_cons_mk (shut_int Try.underlying3 w0) (trodAll_cons_mk (shut_string Try.underlying9 w1) (trodAll_cons_mk (Below.trod laidOut (by kernel_rfl) (of_decide_eq_true (by kernel_rfl)) k2 bel lt2) (trodAll_cons_mk (shut_int Try.underlying3 w3) (trodAll_cons_mk (shut_int Try.underlying3 w6) (trodAll_cons_mk (Below.trod laidOut (by kernel_rfl) (of_decide_eq_true (by kernel_rfl)) k4 bel lt4) (trodAll_cons_mk (shut_int Try.underlying3 w5) trodAll_mk0))))))), rfl, bel.frame _, fun h => by cases h⟩

theorem over : Rows.onceRow.holds Try.pinned (OpenSpec.ofChange Rows.onceSpec) :=
  OpenClaim.holds_of_wide 6 Try.f6 rfl rfl rfl rfl rfl rfl rfl ⟨rfl, rfl, rfl, rfl, rfl⟩ rfl rfl rfl rfl rfl (by kernel_rfl) Try.func6 (by kernel_rfl)
    (of_decide_eq_true (by kernel_rfl)) (by unfold Func.isWrapper; first | (rw [if_pos (by decide +kernel)]; kernel_rfl) | (rw [if_neg (by decide +kernel)]; exact ⟨rfl, rfl⟩))
    (fun os started H enc _ => lifted os started H enc)

end Go.Proofs.Ytklicjbpjigfdab.onceDone

namespace Go.Proofs.Ytklicjbpjigfdab
/-- The statement. -/
theorem once_holds : Rows.OnceSaid := onceDone.over
#print axioms once_holds
end Go.Proofs.Ytklicjbpjigfdab
