/- The statement Takes holds: whatever the room and the script, sketchlaw.Takes returns true, and what was handed in reads as it did. -/
import Derived.Test.YtklicjbpjigfdabGreatQ30
import Derived.Test.YtklicjbpjigfdabGreatQ31
namespace Go.Proofs.YtklicjbpjigfdabGreat.takesDone
open Go.ChangeShapes Go.WideShapes Go.ChangeAt Go.RowKit
set_option linter.unusedVariables false

theorem own : ownKnob Tryz.prog.godebug = none := by kernel_rfl
theorem laidOut : laidOutB Tryz.prog = true := by kernel_rfl

theorem _root_.Go.Proofs.YtklicjbpjigfdabGreat.OpsAt.below {w w' : World} {ao : Option Addr} {n : Nat} {os : List Opr} (h : OpsAt w ao n os) (hb : Below w.heap.size w w') : OpsAt w' ao n os := fun i hi => by
  obtain ⟨b, off, e, hz, r0, r1, r2, r3, r4, r5⟩ := h i hi
  exact ⟨b, off, e, Nat.lt_of_lt_of_le hz hb.size, (hb.cell (p := ⟨b, off + i * 6, none⟩) hz).trans r0, (hb.cell (p := ⟨b, off + i * 6 + 1, none⟩) hz).trans r1, (hb.cell (p := ⟨b, off + i * 6 + 2, none⟩) hz).trans r2, (hb.cell (p := ⟨b, off + i * 6 + 3, none⟩) hz).trans r3, (hb.cell (p := ⟨b, off + i * 6 + 4, none⟩) hz).trans r4, (hb.cell (p := ⟨b, off + i * 6 + 5, none⟩) hz).trans r5⟩

theorem walk (room : Int) (ao : Option Addr) (n cap : Nat) (cs : List Opr) (w : World) (hn : n ≤ 4398046511104) (hc : OpsAt w ao n cs) (hok : ∀ i, i < n → (cs.getD i Opr.zero).Ok) (hls : ∀ i, i < n → ∃ l1 l2 l3 C, (cs.getD i Opr.zero).vl = .slice l1 l2 l3 ∧ IntsG w l1 l2 C ∧ l2 ≤ 17592186044416) :
    Calls Tryz.prog 3 #[.int .i64 room, .slice ao n cap] w fun e w' => e = .returned (.bool true) ∧ Below w.heap.size w w' := by
  have HP := hid (playsD_any room ao n cap cs 16 2 9 w (by decide) hn hc hok hls)
  have HQ := hid (fun (w' : World) (hb : Below w.heap.size w w') => playsD_any room ao n cap cs 16 15 16 w' (by decide) hn (hc.below hb) hok (fun i hi => by
    obtain ⟨l1, l2, l3, C, h1, h2, h3⟩ := hls i hi
    exact ⟨l1, l2, l3, C, h1, h2.below hb, h3⟩))
  clear hc hok hls
  go_enter Tryz.func3, Tryz.ntmps3
  go_wp2_with fail
  refine HP.out.mono ?_
  rintro e w1 ⟨rfl, hb⟩
  have HB := hid hb
  clear hb
  go_wp2_with fail
  refine (HQ.out _ HB.out).mono ?_
  rintro e w2 ⟨rfl, hb⟩
  have HB2 := hid (HB.out.trans (hb.mono HB.out.size))
  clear hb
  go_wp2_with fail
  go_ret
  exact ⟨rfl, HB2.out⟩

set_option maxRecDepth 100000 in
theorem lifted (os : Os) (started : os.Started) (H : Type) (enc : TypeId × Value → H) :
    ReturnsInHanded {} Tryz.checked os 3 .any (Rows.takesSpec.pre6 enc Tryz.prog Tryz.f3 Rows.takesRow.domain false) (Rows.takesSpec.post enc Tryz.prog Tryz.f3 false true false false) := by
  refine returnsInHanded_of_change_sized (C := Tryz.checked) own started (by kernel_rfl) Tryz.func3
    (ChangeSpec.witness6 (enc := enc) (C := Tryz.checked) false ⟨#[], #[.int .i64 0, .slice none 0 0], []⟩ 8 (by kernel_rfl) (by kernel_rfl) (by kernel_rfl) (by kernel_rfl)) ?_
  intro W base args ds gs before hval0 hW hcnd hsz0 _
  have hval : ∀ (j : Nat) t v, Tryz.f3.params[j]? = some t → args[j]? = some v → Value.okWide Tryz.prog W .any base t v := hval0
  have hW' := hW
  obtain ⟨p, q, hA0, hV, rfl, hfz, hnd⟩ := hW
  have hA : DataW.TrodAll enc Tryz.prog W 0 (fun _ => true) true Tryz.f3.params.toList args.toList ds p := hA0
  rw [Tryz.params3] at hA hval
  obtain ⟨v0, vs0, d0, ds0, p0, q0, hargs, rfl, rfl, h0, r0⟩ := trodAll_cons hA
  obtain ⟨v1, vs1, d1, ds1, p1, q1, rfl, rfl, rfl, h1, r1⟩ := trodAll_cons r0
  obtain ⟨rfl, rfl, rfl⟩ := trodAll_nil r1
  obtain rfl : args = #[v0, v1] := by cases args; simp_all
  obtain ⟨rfl, rfl⟩ := trodVars_none hV
  obtain ⟨room, rfl, rfl, rfl, w0⟩ := open_int Tryz.underlying3 (hval 0 3 v0 rfl rfl) h0
  obtain ⟨ao, n, cap, rfl⟩ := okWide_slice Tryz.underlying22 (hval 1 22 v1 rfl rfl)
  have k1 := h1
  have lt1 : ∀ x ∈ p1, x.block < W.heap.size := by obtain ⟨m, hm⟩ := k1; exact DataW.trod_lt m _ _ _ hm
  have hsz : (DataW.weightsEach Tryz.prog [3, 22] [DataW.lit (.int .i64 room), d1]).all (· ≤ reachBytes) = true := by
    have e : Tryz.checked.prog = Tryz.prog := rfl
    simpa [e, Tryz.params3, ChangeSpec.plain, Rows.takesSpec, DataSpec.varTypes] using hsz0
  obtain ⟨cs, hl, hc, hal, hd⟩ := open_opsL h1
  have hn : n * 72 ≤ reachBytes := by
    rcases hd with ⟨_, rfl⟩ | ⟨elems, spare, rfl, hel⟩
    · simp
    · have := sized_slice hsz (j := 1) rfl rfl Tryz.underlying22
      rw [bytesOp, hel] at this
      omega
  have hre : reachBytes ≤ 140737488351232 := by decide
  clear hA0 hval0
  have hmem : ∀ k, k ∈ d1.weights Tryz.prog 22 → k ≤ reachBytes := fun k hk => by
    have := List.all_eq_true.1 hsz _ (DataW.weights_mem_each (j := 1) (t := 22) rfl rfl _ hk)
    simpa using this
  refine (walk room ao n cap cs W (by omega) hc (fun i hi => ?_) (fun i hi => ?_)).mono fun e W' ⟨he, bel⟩ => ?_
  · obtain ⟨h2, h3, h4, h5, lo, ln, lc, C, h6, _⟩ := hal i hi
    have := hmem _ h5
    exact ⟨h2, h3, by omega, lo, ln, lc, h6⟩
  · obtain ⟨h2, h3, h4, h5, lo, ln, lc, C, h6, h7, k, h8⟩ := hal i hi
    refine ⟨lo, ln, lc, C, h6, h7, ?_⟩
    rcases List.mem_cons.1 h8 with e | e
    · omega
    · have := hmem _ e
      omega
  subst he
  exact ⟨_, rfl, _, _, _, [], _, [], hW', trodAll_mk1 (shut_bool Tryz.underlying4 _), (trodAll_cons_mk (shut_int Tryz.underlying3 w0) (trodAll_cons_mk (Below.trod laidOut (by kernel_rfl) (of_decide_eq_true (by kernel_rfl)) k1 bel lt1) trodAll_mk0)), rfl, bel.frame _, fun h => by cases h⟩

theorem over : Rows.takesRow.holds Tryz.pinned (OpenSpec.ofChange Rows.takesSpec) :=
  OpenClaim.holds_of_wide 3 Tryz.f3 rfl rfl rfl rfl rfl rfl rfl ⟨rfl, rfl, rfl, rfl, rfl⟩ rfl rfl rfl rfl rfl (by kernel_rfl) Tryz.func3 (by kernel_rfl)
    (of_decide_eq_true (by kernel_rfl)) (by unfold Func.isWrapper; first | (rw [if_pos (by decide +kernel)]; kernel_rfl) | (rw [if_neg (by decide +kernel)]; exact ⟨rfl, rfl⟩))
    (fun os started H enc _ => lifted os started H enc)

end Go.Proofs.YtklicjbpjigfdabGreat.takesDone

namespace Go.Proofs.YtklicjbpjigfdabGreat
/-- The statement. -/
theorem takes_holds : Rows.TakesSaid := takesDone.over
#print axioms takes_holds
end Go.Proofs.YtklicjbpjigfdabGreat
