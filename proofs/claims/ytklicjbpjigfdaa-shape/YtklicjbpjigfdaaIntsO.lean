/- DERIVED. A list of numbers that came in, opened. -/
import Derived.Test.YtklicjbpjigfdaaStepsO
import Derived.ChangeSlices
namespace Go.Proofs.Ytklicjbpjigfdaa
open Go.ChangeShapes Go.WideShapes Go.ChangeAt Go.RowKit Go.Deep Go.Joins
set_option linter.unusedVariables false
theorem bytesInt : Try.prog.bytesOf 3 = 8 := by kernel_rfl
section
variable {H : Type} {enc : TypeId × Value → H}
theorem open_xs {W : World} {ao : Option Addr} {n cap : Nat} {d : DataW H} {p : List MemPlace} (h : DataW.Trod enc Try.prog W 0 (fun _ => true) true 42 (.slice ao n cap) d p) :
    (∃ xl : List Int, ∀ i, i < n → ∃ b off, ao = some ⟨b, off, none⟩ ∧ b < W.heap.size ∧ W.cell? ⟨b, off + i, none⟩ = some (.int .i64 (xl.getD i 0)) ∧ InRange (xl.getD i 0)) ∧ (d = .nil ∧ n = 0 ∨ ∃ elems spare, d = .slice elems spare ∧ elems.length = n) := by
  obtain ⟨fuel, hf⟩ := h
  rcases open_ints Try.underlying42 Try.underlying3 cellsInt hf with ⟨hcs, hx⟩ | ⟨a, len, cp, zs, hcs, _, hl, hm, hzl, hx, hcell, hwf⟩
  · simp [Value.cells] at hcs
    obtain ⟨rfl, rfl, rfl⟩ := hcs
    simp only [Prod.mk.injEq] at hx
    exact ⟨⟨[], fun i hi => absurd hi (Nat.not_lt_zero _)⟩, .inl ⟨hx.1, rfl⟩⟩
  · simp [Value.cells] at hcs
    obtain ⟨rfl, rfl, rfl⟩ := hcs
    simp only [Prod.mk.injEq] at hx
    simp only [if_true] at hzl
    refine ⟨⟨zs, fun i hi => ?_⟩, .inr ⟨_, _, hx.1, by simp [lits]; omega⟩⟩
    obtain ⟨b, off, spot⟩ := a
    have h0 := hcell 0 (by omega)
    have hspot : spot = none := by simpa [Addr.add] using World.cell?_spot h0
    subst hspot
    have hc := hcell i (by omega)
    rw [Addr.add_lit] at hc
    have hmem : zs.getD i 0 ∈ zs := by
      have : zs.getD i 0 = zs[i]'(by omega) := by simp [List.getD, show i < zs.length by omega]
      rw [this]; exact List.getElem_mem _
    exact ⟨b, off, rfl, cell_lt hc, hc, bounds_i64 (hwf _ hmem)⟩
end
end Go.Proofs.Ytklicjbpjigfdaa
