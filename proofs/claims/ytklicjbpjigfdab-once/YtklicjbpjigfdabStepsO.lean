/- DERIVED. A list of steps that came in, opened: its length, its steps' cells, its weight in bytes. -/
import Derived.Test.YtklicjbpjigfdabRows
import Derived.Test.YtklicjbpjigfdabNc
import Derived.WalkKit
import Derived.ProofKit
import Derived.OpenShut
import Derived.ShutString
import Derived.ChangeOld
import Derived.Below
import Derived.SizedLaws
import Derived.Deep.Slices
import Derived.Lib.SmallJoins
namespace Go.Proofs.Ytklicjbpjigfdab
open Go.ChangeShapes Go.WideShapes Go.ChangeAt Go.RowKit Go.Deep Go.Joins
set_option linter.unusedVariables false

theorem cellsStep : Try.prog.cellsOf 39 = 4 := by kernel_rfl
theorem cellsInt : Try.prog.cellsOf 3 = 1 := by kernel_rfl
theorem bytesStep : Try.prog.bytesOf 39 = 32 := by kernel_rfl

/-- The steps of a list that came in. -/
def StepsIn (w : World) (ao : Option Addr) (n : Nat) (ss : List St) : Prop :=
  ss.length = n ∧ (∀ s ∈ ss, InRange s.kd ∧ InRange s.a ∧ InRange s.b ∧ InRange s.c) ∧
  ∀ i, i < n → ∃ b off, ao = some ⟨b, off, none⟩ ∧ b < w.heap.size ∧ w.cell? ⟨b, off + i * 4, none⟩ = some (.int .i64 (ss.getD i St.zero).kd) ∧ w.cell? ⟨b, off + i * 4 + 1, none⟩ = some (.int .i64 (ss.getD i St.zero).a) ∧ w.cell? ⟨b, off + i * 4 + 2, none⟩ = some (.int .i64 (ss.getD i St.zero).b) ∧ w.cell? ⟨b, off + i * 4 + 3, none⟩ = some (.int .i64 (ss.getD i St.zero).c)

theorem cell_lt {w : World} {b o : Nat} {v : Value} (h : w.cell? ⟨b, o, none⟩ = some v) : b < w.heap.size := by
  apply Decidable.byContradiction
  intro hn
  have : w.heap[b]? = none := Array.getElem?_eq_none (by omega)
  simp [World.cell?, this] at h

theorem four {α : Type} : ∀ {l : List α}, l.length = 4 → ∃ a b c d, l = [a, b, c, d]
  | [a, b, c, d], _ => ⟨a, b, c, d, rfl⟩

section
variable {H : Type} {enc : TypeId × Value → H}

theorem open_step {W : World} {base : Nat} {sp : Nat → Bool} {held : Bool} {n : Nat} {cs : List Value} {x : DataW H × List MemPlace} (h : DataW.trod enc Try.prog W base sp held n 39 cs = some x) :
    ∃ s : St, cs = s.cells ∧ InRange s.kd ∧ InRange s.a ∧ InRange s.b ∧ InRange s.c := by
  obtain ⟨y0, y1, y2, y3, m, _, hl, h0, h1, h2, h3⟩ := trod_struct4 Try.underlying39 h
  rw [cellsStep] at hl
  obtain ⟨c0, c1, c2, c3, rfl⟩ := four hl
  simp only [cellsInt, List.drop, List.take] at h0 h1 h2 h3
  obtain ⟨n0, e0, _, b0⟩ := DataW.trod_int Try.underlying3 h0
  obtain ⟨n1, e1, _, b1⟩ := DataW.trod_int Try.underlying3 h1
  obtain ⟨n2, e2, _, b2⟩ := DataW.trod_int Try.underlying3 h2
  obtain ⟨n3, e3, _, b3⟩ := DataW.trod_int Try.underlying3 h3
  simp only [List.cons.injEq, and_true] at e0 e1 e2 e3
  subst e0 e1 e2 e3
  exact ⟨⟨n0, n1, n2, n3⟩, rfl, bounds_i64 b0, bounds_i64 b1, bounds_i64 b2, bounds_i64 b3⟩

theorem open_steps {W : World} {ao : Option Addr} {n cap : Nat} {d : DataW H} {p : List MemPlace} (h : DataW.Trod enc Try.prog W 0 (fun _ => true) true 22 (.slice ao n cap) d p) :
    (∃ ss, StepsIn W ao n ss) ∧ (d = .nil ∧ n = 0 ∨ ∃ elems spare, d = .slice elems spare ∧ elems.length = n) := by
  obtain ⟨fuel, hf⟩ := h
  rcases open_slice Try.underlying22 hf with ⟨hcs, hx⟩ | ⟨a, len, cp, m, k, D, Pl, hcs, _, hl, hm, hmm, hx, hall⟩
  · simp [Value.cells] at hcs
    obtain ⟨rfl, rfl, rfl⟩ := hcs
    simp only [Prod.mk.injEq] at hx
    exact ⟨⟨[], rfl, fun s hs => (by cases hs), fun i hi => absurd hi (Nat.not_lt_zero _)⟩, .inl ⟨hx.1, rfl⟩⟩
  · simp [Value.cells] at hcs
    obtain ⟨rfl, rfl, rfl⟩ := hcs
    simp only [Prod.mk.injEq] at hx
    simp only [if_true] at hmm
    subst hmm
    refine ⟨?_, .inr ⟨_, _, hx.1, by simp⟩⟩
    rw [cellsStep] at hall
    haveI : Inhabited St := ⟨St.zero⟩
    obtain ⟨f, hf⟩ := choose_lt (n := n) (p := fun i (s : St) => W.cells? 0 (a.add (i * 4)) 4 = some s.cells ∧ InRange s.kd ∧ InRange s.a ∧ InRange s.b ∧ InRange s.c) (fun i hi => by
      obtain ⟨cs', h1, h2⟩ := hall i (Nat.lt_of_lt_of_le hi hl)
      obtain ⟨s, rfl, hs⟩ := open_step h2
      exact ⟨s, h1, hs⟩)
    refine ⟨(List.range n).map f, by simp, fun s hs => ?_, fun i hi => ?_⟩
    · obtain ⟨i, hi, rfl⟩ := List.mem_map.1 hs
      exact (hf i (List.mem_range.1 hi)).2
    · obtain ⟨_, _, hc⟩ := World.cells?_some (hf i hi).1
      obtain ⟨b, off, spot⟩ := a
      have hg : ((List.range n).map f).getD i St.zero = f i := by simp [List.getD, hi]
      rw [hg]
      have c0 := hc 0 (by decide)
      have c1 := hc 1 (by decide)
      have c2 := hc 2 (by decide)
      have c3 := hc 3 (by decide)
      simp only [St.cells, List.getElem?_cons_zero, List.getElem?_cons_succ] at c0 c1 c2 c3
      have hspot : spot = none := by
        have h0 := (World.cells?_some (hf 0 (by omega)).1).2.2 0 (by decide)
        simp only [St.cells, List.getElem?_cons_zero] at h0
        simpa [Addr.add] using World.cell?_spot h0
      subst hspot
      simp only [Addr.add_lit, Nat.add_zero] at c0 c1 c2 c3
      exact ⟨b, off, rfl, cell_lt c0, c0, c1, c2, c3⟩

end
end Go.Proofs.Ytklicjbpjigfdab
