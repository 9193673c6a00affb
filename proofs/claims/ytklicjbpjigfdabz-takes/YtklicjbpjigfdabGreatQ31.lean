/- DERIVED. A script that came in, opened: its length, its steps' cells, its weight in bytes, its strings' sizes. -/
import Derived.Test.YtklicjbpjigfdabGreatRows
import Derived.Test.YtklicjbpjigfdabGreatQ23
import Derived.WalkKit
import Derived.ProofKit
import Derived.OpenShut
import Derived.ShutString
import Derived.ChangeOld
import Derived.Below
import Derived.SizedLaws
import Derived.Deep.Slices
import Derived.Lib.SmallJoins
import Derived.Test.YtklicjbpjigfdabGreatQ17
namespace Go.Proofs.YtklicjbpjigfdabGreat
open Go.ChangeShapes Go.WideShapes Go.ChangeAt Go.RowKit Go.Deep Go.Joins
set_option linter.unusedVariables false

theorem cellsOp : Tryz.prog.cellsOf 30 = 6 := by kernel_rfl
theorem cellsInt : Tryz.prog.cellsOf 3 = 1 := by kernel_rfl
theorem cellsStr : Tryz.prog.cellsOf 9 = 1 := by kernel_rfl
theorem cellsIntL : Tryz.prog.cellsOf 28 = 1 := by kernel_rfl
theorem bytesOp : Tryz.prog.bytesOf 30 = 72 := by kernel_rfl
theorem cell_lt {w : World} {b o : Nat} {v : Value} (h : w.cell? ⟨b, o, none⟩ = some v) : b < w.heap.size := by
  apply Decidable.byContradiction
  intro hn
  have : w.heap[b]? = none := Array.getElem?_eq_none (by omega)
  simp [World.cell?, this] at h

theorem six {α : Type} : ∀ {l : List α}, l.length = 6 → ∃ a b c d e f, l = [a, b, c, d, e, f]
  | [a, b, c, d, e, f], _ => ⟨a, b, c, d, e, f, rfl⟩

def Opr.cells (c : Opr) : List Value := [.int .i64 c.kd, .int .i64 c.a, .int .i64 c.b, .int .i64 c.c, .string c.s, c.vl]

section
variable {H : Type} {enc : TypeId × Value → H}

theorem weightsAll_mem {P : Program} {e : TypeId} {x : DataW H} {k : Nat} : ∀ {l : List (DataW H)}, x ∈ l → k ∈ x.weights P e → k ∈ DataW.weightsAll P e l
  | [], h, _ => by cases h
  | d :: r, h, hk => by
    unfold DataW.weightsAll
    rcases List.mem_cons.1 h with rfl | h
    · exact List.mem_append_left _ hk
    · exact List.mem_append_right _ (weightsAll_mem h hk)

theorem trod_struct6 {P : Program} {w : World} {base : Nat} {spare : Nat → Bool} {held : Bool} {t : TypeId} {f0 f1 f2 f3 f4 f5 : Field} {fuel : Nat} {cs : List Value} {x : DataW H × List MemPlace} (ht : P.underlying t = some (.struct #[f0, f1, f2, f3, f4, f5])) (h : DataW.trod enc P w base spare held fuel t cs = some x) :
    ∃ y0 y1 y2 y3 y4 y5 n, x.1 = .agg [y0.1, y1.1, y2.1, y3.1, y4.1, y5.1] ∧ cs.length = P.cellsOf t ∧ DataW.trod enc P w base spare held n f0.type ((cs.drop f0.offset).take (P.cellsOf f0.type)) = some y0 ∧
      DataW.trod enc P w base spare held n f1.type ((cs.drop f1.offset).take (P.cellsOf f1.type)) = some y1 ∧ DataW.trod enc P w base spare held n f2.type ((cs.drop f2.offset).take (P.cellsOf f2.type)) = some y2 ∧
      DataW.trod enc P w base spare held n f3.type ((cs.drop f3.offset).take (P.cellsOf f3.type)) = some y3 ∧ DataW.trod enc P w base spare held n f4.type ((cs.drop f4.offset).take (P.cellsOf f4.type)) = some y4 ∧ DataW.trod enc P w base spare held n f5.type ((cs.drop f5.offset).take (P.cellsOf f5.type)) = some y5 := by
  obtain ⟨xs, n, _, rfl, hl, hlen, hf⟩ := DataW.trod_struct ht h
  match xs, hlen with
  | [y0, y1, y2, y3, y4, y5], _ => exact ⟨y0, y1, y2, y3, y4, y5, n, by simp, hl, by simpa using hf 0 f0 rfl, by simpa using hf 1 f1 rfl, by simpa using hf 2 f2 rfl, by simpa using hf 3 f3 rfl, by simpa using hf 4 f4 rfl, by simpa using hf 5 f5 rfl⟩

theorem bounds_i64' {n : Int} (h : (Lit.int .i64 n).wf = true) : -9223372036854775808 ≤ n ∧ n ≤ 9223372036854775807 := bounds_i64 h

theorem open_op {W : World} {base : Nat} {sp : Nat → Bool} {held : Bool} {n : Nat} {cs : List Value} {x : DataW H × List MemPlace} (h : DataW.trod enc Tryz.prog W base sp held n 30 cs = some x) :
    ∃ c : Opr, cs = c.cells ∧ (-9223372036854775808 ≤ c.a ∧ c.a ≤ 9223372036854775807) ∧ (-9223372036854775808 ≤ c.b ∧ c.b ≤ 9223372036854775807) ∧ c.s.size ∈ x.1.weights Tryz.prog 30 ∧ ∃ lo ln lc, c.vl = .slice lo ln lc := by
  obtain ⟨y0, y1, y2, y3, y4, y5, m, hx, hl, h0, h1, h2, h3, h4, h5⟩ := trod_struct6 Tryz.underlying30 h
  rw [cellsOp] at hl
  obtain ⟨c0, c1, c2, c3, c4, c5, rfl⟩ := six hl
  simp only [cellsInt, cellsStr, cellsIntL, List.drop, List.take] at h0 h1 h2 h3 h4 h5
  obtain ⟨n0, e0, _, b0⟩ := DataW.trod_int Tryz.underlying3 h0
  obtain ⟨n1, e1, _, b1⟩ := DataW.trod_int Tryz.underlying3 h1
  obtain ⟨n2, e2, _, b2⟩ := DataW.trod_int Tryz.underlying3 h2
  obtain ⟨n3, e3, _, b3⟩ := DataW.trod_int Tryz.underlying3 h3
  obtain ⟨s, e4, e5, _⟩ := DataW.trod_string Tryz.underlying9 h4
  have hsl : ∃ lo ln lc, c5 = .slice lo ln lc := by
    rcases open_slice Tryz.underlying28 h5 with ⟨hcs, _⟩ | ⟨a, len, cp, _, _, _, _, hcs, _⟩
    · simp only [List.cons.injEq, and_true] at hcs
      exact ⟨_, _, _, hcs⟩
    · simp only [List.cons.injEq, and_true] at hcs
      exact ⟨_, _, _, hcs⟩
  simp only [List.cons.injEq, and_true] at e0 e1 e2 e3 e4
  subst e0 e1 e2 e3 e4 e5
  refine ⟨⟨n0, n1, n2, n3, s, c5⟩, rfl, bounds_i64 b1, bounds_i64 b2, ?_, hsl⟩
  have hsz : s.size = s.data.toList.length := by simp
  have hw : (DataW.lit (.string s.data.toList) : DataW H).weights Tryz.prog 9 = [s.data.toList.length] := by simp only [DataW.weights]
  rw [hx]
  simp only [DataW.weights, Tryz.underlying30]
  show s.size ∈ y0.1.weights Tryz.prog 3 ++ (y1.1.weights Tryz.prog 3 ++ (y2.1.weights Tryz.prog 3 ++ (y3.1.weights Tryz.prog 3 ++ ((DataW.lit (.string s.data.toList) : DataW H).weights Tryz.prog 9 ++ (y5.1.weights Tryz.prog 28 ++ DataW.weightsEach Tryz.prog [] ([] : List (DataW H)))))))
  rw [hw, hsz]
  exact List.mem_append_right _ (List.mem_append_right _ (List.mem_append_right _ (List.mem_append_right _ (List.mem_append_left _ (List.mem_singleton.2 rfl)))))

theorem open_ops {W : World} {ao : Option Addr} {n cap : Nat} {d : DataW H} {p : List MemPlace} (h : DataW.Trod enc Tryz.prog W 0 (fun _ => true) true 22 (.slice ao n cap) d p) :
    ∃ cs : List Opr, cs.length = n ∧ OpsAt W ao n cs ∧ (∀ i, i < n → (-9223372036854775808 ≤ (cs.getD i Opr.zero).a ∧ (cs.getD i Opr.zero).a ≤ 9223372036854775807) ∧ (-9223372036854775808 ≤ (cs.getD i Opr.zero).b ∧ (cs.getD i Opr.zero).b ≤ 9223372036854775807) ∧ (cs.getD i Opr.zero).s.size ∈ d.weights Tryz.prog 22 ∧ ∃ lo ln lc, (cs.getD i Opr.zero).vl = .slice lo ln lc) ∧ (d = .nil ∧ n = 0 ∨ ∃ elems spare, d = .slice elems spare ∧ elems.length = n) := by
  obtain ⟨fuel, hf⟩ := h
  rcases open_slice Tryz.underlying22 hf with ⟨hcs, hx⟩ | ⟨a, len, cp, m, k, D, Pl, hcs, _, hl, hm, hmm, hx, hall⟩
  · simp [Value.cells] at hcs
    obtain ⟨rfl, rfl, rfl⟩ := hcs
    simp only [Prod.mk.injEq] at hx
    exact ⟨[], rfl, fun i hi => absurd hi (Nat.not_lt_zero _), fun i hi => absurd hi (Nat.not_lt_zero _), .inl ⟨hx.1, rfl⟩⟩
  · simp [Value.cells] at hcs
    obtain ⟨rfl, rfl, rfl⟩ := hcs
    simp only [Prod.mk.injEq] at hx
    simp only [if_true] at hmm
    subst hmm
    rw [cellsOp] at hall
    haveI : Inhabited Opr := ⟨Opr.zero⟩
    obtain ⟨f, hf⟩ := choose_lt (n := n) (p := fun i (c : Opr) => W.cells? 0 (a.add (i * 6)) 6 = some c.cells ∧ (-9223372036854775808 ≤ c.a ∧ c.a ≤ 9223372036854775807) ∧ (-9223372036854775808 ≤ c.b ∧ c.b ≤ 9223372036854775807) ∧ c.s.size ∈ (D i).weights Tryz.prog 30 ∧ ∃ lo ln lc, c.vl = .slice lo ln lc) (fun i hi => by
      obtain ⟨cs', h1, h2⟩ := hall i (Nat.lt_of_lt_of_le hi hl)
      obtain ⟨s, rfl, hs⟩ := open_op h2
      exact ⟨s, h1, hs⟩)
    have hg : ∀ i, i < n → ((List.range n).map f).getD i Opr.zero = f i := fun i hi => by simp [List.getD, hi]
    refine ⟨(List.range n).map f, by simp, fun i hi => ?_, fun i hi => ?_, .inr ⟨_, _, hx.1, by simp⟩⟩
    · obtain ⟨_, _, hc⟩ := World.cells?_some (hf i hi).1
      obtain ⟨b, off, spot⟩ := a
      rw [hg i hi]
      have c0 := hc 0 (by decide)
      have c1 := hc 1 (by decide)
      have c2 := hc 2 (by decide)
      have c3 := hc 3 (by decide)
      have c4 := hc 4 (by decide)
      have c5 := hc 5 (by decide)
      simp only [Opr.cells, List.getElem?_cons_zero, List.getElem?_cons_succ] at c0 c1 c2 c3 c4 c5
      have hspot : spot = none := by
        have h0 := (World.cells?_some (hf 0 (by omega)).1).2.2 0 (by decide)
        simp only [Opr.cells, List.getElem?_cons_zero] at h0
        simpa [Addr.add] using World.cell?_spot h0
      subst hspot
      simp only [Addr.add_lit, Nat.add_zero] at c0 c1 c2 c3 c4 c5
      exact ⟨b, off, rfl, cell_lt c0, c0, c1, c2, c3, c4, c5⟩
    · rw [hg i hi]
      obtain ⟨_, h2, h3, h4, h5⟩ := hf i hi
      refine ⟨h2, h3, ?_, h5⟩
      rw [hx.1]
      simp only [DataW.weights, Tryz.underlying22]
      exact List.mem_cons_of_mem _ (List.mem_append_left _ (weightsAll_mem (List.mem_map.2 ⟨i, List.mem_range.2 hi, rfl⟩) h4))

end
end Go.Proofs.YtklicjbpjigfdabGreat

/- DERIVED. A script that came in, opened: each step's list of numbers besides. -/
namespace Go.Proofs.YtklicjbpjigfdabGreat
open Go.ChangeShapes Go.WideShapes Go.ChangeAt Go.RowKit Go.Deep Go.Joins
set_option linter.unusedVariables false

theorem bytesInt : Tryz.prog.bytesOf 3 = 8 := by kernel_rfl

/-- What is known of a step's list: it is a slice of numbers, and its length in bytes is one of the weights L. -/
def ListOk (W : World) (v : Value) (L : List Nat) : Prop := ∃ lo ln lc C, v = .slice lo ln lc ∧ IntsG W lo ln C ∧ ∃ k, (ln + k) * 8 ∈ 0 :: L
theorem ListOk.mono {W : World} {v : Value} {L L' : List Nat} (h : ListOk W v L) (hs : ∀ x, x ∈ L → x ∈ L') : ListOk W v L' := by
  obtain ⟨lo, ln, lc, C, h1, h2, k, h3⟩ := h
  refine ⟨lo, ln, lc, C, h1, h2, k, ?_⟩
  rcases List.mem_cons.1 h3 with e | e
  · exact List.mem_cons.2 (.inl e)
  · exact List.mem_cons.2 (.inr (hs _ e))

section
variable {H : Type} {enc : TypeId × Value → H}

theorem open_intL {W : World} {base : Nat} {sp : Nat → Bool} {held : Bool} {n : Nat} {v : Value} {x : DataW H × List MemPlace} (h : DataW.trod enc Tryz.prog W base sp held n 28 [v] = some x) :
    ListOk W v (x.1.weights Tryz.prog 28) := by
  rcases open_slice1 Tryz.underlying28 cellsInt h with ⟨hcs, hx⟩ | ⟨a, len, cp, m, k, V, D, Pl, hcs, _, hl, hm, hmm, hx, hall⟩
  · simp only [List.cons.injEq, and_true] at hcs
    exact ⟨none, 0, 0, [], hcs, ⟨rfl, fun i hi => absurd hi (Nat.not_lt_zero _)⟩, 0, List.mem_cons.2 (.inl rfl)⟩
  · simp only [List.cons.injEq, and_true] at hcs
    have hlm : len ≤ m := by rw [hmm]; split <;> omega
    obtain ⟨f, hf⟩ := choose_lt (n := len) (p := fun i (c : Int) => V i = .int .i64 c) (fun i hi => by
      obtain ⟨n0, e0, _, _⟩ := DataW.trod_int Tryz.underlying3 (hall i (by omega)).2
      simp only [List.cons.injEq, and_true] at e0
      exact ⟨n0, e0⟩)
    refine ⟨some a, len, cp, (List.range len).map f, hcs, ⟨by simp, fun i hi => ?_⟩, m - len, ?_⟩
    · have hc := (hall i (by omega)).1
      have hsp := World.cell?_spot (hall 0 (by omega)).1
      obtain ⟨b, off, spot⟩ := a
      simp only [Addr.add] at hsp
      subst hsp
      simp only [Addr.add_lit] at hc
      have hg : ((List.range len).map f).getD i 0 = f i := by simp [List.getD, hi]
      rw [hf i hi] at hc
      exact ⟨b, off, rfl, cell_lt hc, by rw [hg]; exact hc⟩
    · rw [hx]
      refine List.mem_cons.2 (.inr ?_)
      simp only [DataW.weights, Tryz.underlying28]
      refine List.mem_cons.2 (.inl ?_)
      rw [bytesInt]
      simp

theorem open_opL {W : World} {base : Nat} {sp : Nat → Bool} {held : Bool} {n : Nat} {cs : List Value} {x : DataW H × List MemPlace} (h : DataW.trod enc Tryz.prog W base sp held n 30 cs = some x) :
    ∃ c : Opr, cs = c.cells ∧ (-9223372036854775808 ≤ c.a ∧ c.a ≤ 9223372036854775807) ∧ (-9223372036854775808 ≤ c.b ∧ c.b ≤ 9223372036854775807) ∧ (-9223372036854775808 ≤ c.c ∧ c.c ≤ 9223372036854775807) ∧ c.s.size ∈ x.1.weights Tryz.prog 30 ∧ ListOk W c.vl (x.1.weights Tryz.prog 30) := by
  obtain ⟨y0, y1, y2, y3, y4, y5, m, hx, hl, h0, h1, h2, h3, h4, h5⟩ := trod_struct6 Tryz.underlying30 h
  rw [cellsOp] at hl
  obtain ⟨c0, c1, c2, c3, c4, c5, rfl⟩ := six hl
  simp only [cellsInt, cellsStr, cellsIntL, List.drop, List.take] at h0 h1 h2 h3 h4 h5
  obtain ⟨n0, e0, _, b0⟩ := DataW.trod_int Tryz.underlying3 h0
  obtain ⟨n1, e1, _, b1⟩ := DataW.trod_int Tryz.underlying3 h1
  obtain ⟨n2, e2, _, b2⟩ := DataW.trod_int Tryz.underlying3 h2
  obtain ⟨n3, e3, _, b3⟩ := DataW.trod_int Tryz.underlying3 h3
  obtain ⟨s, e4, e5, _⟩ := DataW.trod_string Tryz.underlying9 h4
  have hsl := open_intL h5
  simp only [List.cons.injEq, and_true] at e0 e1 e2 e3 e4
  subst e0 e1 e2 e3 e4 e5
  have hsz : s.size = s.data.toList.length := by simp
  have hw : (DataW.lit (.string s.data.toList) : DataW H).weights Tryz.prog 9 = [s.data.toList.length] := by simp only [DataW.weights]
  have hall : x.1.weights Tryz.prog 30 = y0.1.weights Tryz.prog 3 ++ (y1.1.weights Tryz.prog 3 ++ (y2.1.weights Tryz.prog 3 ++ (y3.1.weights Tryz.prog 3 ++ ((DataW.lit (.string s.data.toList) : DataW H).weights Tryz.prog 9 ++ (y5.1.weights Tryz.prog 28 ++ DataW.weightsEach Tryz.prog [] ([] : List (DataW H))))))) := by
    rw [hx]
    simp only [DataW.weights, Tryz.underlying30]
    rfl
  refine ⟨⟨n0, n1, n2, n3, s, c5⟩, rfl, bounds_i64 b1, bounds_i64 b2, bounds_i64 b3, ?_, hsl.mono fun k hk => ?_⟩
  · rw [hall, hw]
    show s.size ∈ _
    rw [hsz]
    exact List.mem_append_right _ (List.mem_append_right _ (List.mem_append_right _ (List.mem_append_right _ (List.mem_append_left _ (List.mem_singleton.2 rfl)))))
  · rw [hall]
    exact List.mem_append_right _ (List.mem_append_right _ (List.mem_append_right _ (List.mem_append_right _ (List.mem_append_right _ (List.mem_append_left _ hk)))))

/-- What is known of each step of a script whose weights are L. -/
structure OprIn (W : World) (L : List Nat) (c : Opr) : Prop where
  a1 : -9223372036854775808 ≤ c.a ∧ c.a ≤ 9223372036854775807
  b1 : -9223372036854775808 ≤ c.b ∧ c.b ≤ 9223372036854775807
  c1 : -9223372036854775808 ≤ c.c ∧ c.c ≤ 9223372036854775807
  s1 : c.s.size ∈ L
  l1 : ListOk W c.vl L

theorem open_opsL {W : World} {ao : Option Addr} {n cap : Nat} {d : DataW H} {p : List MemPlace} (h : DataW.Trod enc Tryz.prog W 0 (fun _ => true) true 22 (.slice ao n cap) d p) :
    ∃ cs : List Opr, cs.length = n ∧ OpsAt W ao n cs ∧ (∀ i, i < n → OprIn W (d.weights Tryz.prog 22) (cs.getD i Opr.zero)) ∧ (d = .nil ∧ n = 0 ∨ ∃ elems spare, d = .slice elems spare ∧ elems.length = n) := by
  obtain ⟨fuel, hf⟩ := h
  rcases open_slice Tryz.underlying22 hf with ⟨hcs, hx⟩ | ⟨a, len, cp, m, k, D, Pl, hcs, _, hl, hm, hmm, hx, hall⟩
  · simp [Value.cells] at hcs
    obtain ⟨rfl, rfl, rfl⟩ := hcs
    simp only [Prod.mk.injEq] at hx
    exact ⟨[], rfl, fun i hi => absurd hi (Nat.not_lt_zero _), fun i hi => absurd hi (Nat.not_lt_zero _), .inl ⟨hx.1, rfl⟩⟩
  · simp [Value.cells] at hcs
    obtain ⟨rfl, rfl, rfl⟩ := hcs
    simp only [Prod.mk.injEq] at hx
    simp only [if_true] at hmm
    subst hmm
    rw [cellsOp] at hall
    haveI : Inhabited Opr := ⟨Opr.zero⟩
    obtain ⟨f, hf⟩ := choose_lt (n := n) (p := fun i (c : Opr) => W.cells? 0 (a.add (i * 6)) 6 = some c.cells ∧ OprIn W ((D i).weights Tryz.prog 30) c) (fun i hi => by
      obtain ⟨cs', h1, h2⟩ := hall i (Nat.lt_of_lt_of_le hi hl)
      obtain ⟨s, rfl, q1, q2, q3, q4, q5⟩ := open_opL h2
      exact ⟨s, h1, q1, q2, q3, q4, q5⟩)
    have hg : ∀ i, i < n → ((List.range n).map f).getD i Opr.zero = f i := fun i hi => by simp [List.getD, hi]
    refine ⟨(List.range n).map f, by simp, fun i hi => ?_, fun i hi => ?_, .inr ⟨_, _, hx.1, by simp⟩⟩
    · obtain ⟨_, _, hc⟩ := World.cells?_some (hf i hi).1
      obtain ⟨b, off, spot⟩ := a
      rw [hg i hi]
      have c0 := hc 0 (by decide)
      have c1 := hc 1 (by decide)
      have c2 := hc 2 (by decide)
      have c3 := hc 3 (by decide)
      have c4 := hc 4 (by decide)
      have c5 := hc 5 (by decide)
      simp only [Opr.cells, List.getElem?_cons_zero, List.getElem?_cons_succ] at c0 c1 c2 c3 c4 c5
      have hspot : spot = none := by
        have h0 := (World.cells?_some (hf 0 (by omega)).1).2.2 0 (by decide)
        simp only [Opr.cells, List.getElem?_cons_zero] at h0
        simpa [Addr.add] using World.cell?_spot h0
      subst hspot
      simp only [Addr.add_lit, Nat.add_zero] at c0 c1 c2 c3 c4 c5
      exact ⟨b, off, rfl, cell_lt c0, c0, c1, c2, c3, c4, c5⟩
    · rw [hg i hi]
      obtain ⟨_, h2, h3, h4, h5, h6⟩ := hf i hi
      have hsub : ∀ k, k ∈ (D i).weights Tryz.prog 30 → k ∈ d.weights Tryz.prog 22 := fun k hk => by
        rw [hx.1]
        simp only [DataW.weights, Tryz.underlying22]
        exact List.mem_cons_of_mem _ (List.mem_append_left _ (weightsAll_mem (List.mem_map.2 ⟨i, List.mem_range.2 hi, rfl⟩) hk))
      exact ⟨h2, h3, h4, hsub _ h5, h6.mono hsub⟩

end
end Go.Proofs.YtklicjbpjigfdabGreat
