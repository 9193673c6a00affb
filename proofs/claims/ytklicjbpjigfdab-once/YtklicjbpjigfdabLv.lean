/- DERIVED. Levels in memory: 'LvAt F w g cap vs L': block g holds the levels L (their lists at the values vs). -/
import Derived.Test.YtklicjbpjigfdabMem
import Derived.Test.YtklicjbpjigfdabSk
namespace Go.Proofs.Ytklicjbpjigfdab
open Go.RowKit
variable {F : Nat → Prop}

theorem Try.infoLevel : (Try.prog.info? 125).map (fun i => (i.zero, i.size, i.bytes)) = some (some (.agg #[.slice none 0 0, .int .i64 0]), 2, 32) := by kernel_rfl

/-- The cells of levels. -/
def lvCells : List Value → List Lvl → List Value
  | v :: vs, l :: L => v :: .int .i64 (l.times : Int) :: lvCells vs L
  | _, _ => []

theorem lvCells_length : ∀ (vs : List Value) (L : List Lvl), vs.length = L.length → (lvCells vs L).length = L.length * 2 := by
  intro vs
  induction vs with
  | nil => intro L h; cases L with | nil => simp [lvCells] | cons => simp at h
  | cons v vs ih =>
    intro L h
    cases L with
    | nil => simp at h
    | cons l L => simp only [lvCells, List.length_cons, ih L (by simpa using h)]; omega

theorem lvCells_at0 : ∀ (vs : List Value) (L : List Lvl) (j : Nat), vs.length = L.length → j < L.length → (lvCells vs L)[j * 2]? = some (vs.getD j undef) := by
  intro vs
  induction vs with
  | nil => intro L j h hj; simp at h; omega
  | cons v vs ih =>
    intro L j h hj
    cases L with
    | nil => simp at hj
    | cons l L =>
      cases j with
      | zero => simp [lvCells]
      | succ j =>
        rw [lvCells, show (j + 1) * 2 = j * 2 + 1 + 1 by omega, List.getElem?_cons_succ, List.getElem?_cons_succ, ih L j (by simpa using h) (by simpa using hj)]
        simp
theorem lvCells_at1 : ∀ (vs : List Value) (L : List Lvl) (j : Nat), vs.length = L.length → j < L.length → (lvCells vs L)[j * 2 + 1]? = some (.int .i64 ((L.getD j Lvl.none).times : Int)) := by
  intro vs
  induction vs with
  | nil => intro L j h hj; simp at h; omega
  | cons v vs ih =>
    intro L j h hj
    cases L with
    | nil => simp at hj
    | cons l L =>
      cases j with
      | zero => simp [lvCells]
      | succ j =>
        rw [lvCells, show (j + 1) * 2 + 1 = (j * 2 + 1) + 1 + 1 by omega, List.getElem?_cons_succ, List.getElem?_cons_succ, ih L j (by simpa using h) (by simpa using hj)]
        simp

theorem lvCells_one : ∀ (vs : List Value) (L : List Lvl), (∀ h, h < L.length → (vs.getD h undef).oneCell' = true) → ∀ u ∈ lvCells vs L, u.oneCell' = true := by
  intro vs
  induction vs with
  | nil => intro L _ u hu; cases L <;> simp [lvCells] at hu
  | cons v vs ih =>
    intro L h u hu
    cases L with
    | nil => simp [lvCells] at hu
    | cons l L =>
      simp only [lvCells, List.mem_cons] at hu
      rcases hu with rfl | rfl | hu
      · have := h 0 (by simp); simpa using this
      · rfl
      · exact ih L (fun j hj => by have := h (j + 1) (by simpa using hj); simpa using this) u hu

/-- Block g holds the levels L; their lists lie in blocks of F. -/
structure LvAt (F : Nat → Prop) (w : World) (g cap : Nat) (vs : List Value) (L : List Lvl) : Prop where
  row : w.ownsRow 0 125 2 (.slice (some ⟨g, 0, none⟩) L.length cap) L.length (lvCells vs L)
  len : vs.length = L.length
  its : ∀ h, h < L.length → Ints w (vs.getD h undef) (L.getD h Lvl.none).items
  fp : ∀ h, h < L.length → ∀ b, (vs.getD h undef).ownBlock = some b → F b

theorem LvAt.lt {w : World} {g cap : Nat} {vs : List Value} {L : List Lvl} (h : LvAt F w g cap vs L) : g < w.heap.size := ownsRow_lt h.row rfl
theorem LvAt.cell0 {w : World} {g cap : Nat} {vs : List Value} {L : List Lvl} (h : LvAt F w g cap vs L) {j : Nat} (hj : j < L.length) : w.cell? ⟨g, j * 2, none⟩ = some (vs.getD j undef) :=
  ownsRow_cell h.row (lvCells_at0 vs L j h.len hj)
theorem LvAt.cell1 {w : World} {g cap : Nat} {vs : List Value} {L : List Lvl} (h : LvAt F w g cap vs L) {j : Nat} (hj : j < L.length) : w.cell? ⟨g, j * 2 + 1, none⟩ = some (.int .i64 ((L.getD j Lvl.none).times : Int)) :=
  ownsRow_cell h.row (lvCells_at1 vs L j h.len hj)
theorem LvAt.drew {w : World} {g cap : Nat} {vs : List Value} {L : List Lvl} (h : LvAt F w g cap vs L) : LvAt F w.drew g cap vs L := ⟨h.row, h.len, h.its, h.fp⟩
theorem LvAt.free {w : World} {g cap : Nat} {vs : List Value} {L : List Lvl} (h : LvAt F w g cap vs L) (j : Nat) : w.frozen? ⟨g, j, none⟩ = false := by
  rcases h.row.2 with ⟨hv, _⟩ | ⟨g', cap', cur', hv, _, hh, _⟩
  · cases hv
  · cases hv; simp [World.frozen?, hh]
theorem LvAt.below {w w' : World} {g cap : Nat} {vs : List Value} {L : List Lvl} (h : LvAt F w g cap vs L) (hB : Below w.heap.size w w') : LvAt F w' g cap vs L :=
  ⟨ownsRow_below h.row hB (fun _ hg => ownsRow_lt h.row hg), h.len, fun j hj => (h.its j hj).below hB, h.fp⟩
theorem LvAt.one {w : World} {g cap : Nat} {vs : List Value} {L : List Lvl} (h : LvAt F w g cap vs L) : ∀ u ∈ lvCells vs L, u.oneCell' = true :=
  lvCells_one vs L (fun j hj => by obtain ⟨ao, c, e⟩ := (h.its j hj).form; rw [e.1]; rfl)

/-- Whoever keeps all rows keeps the levels: only blocks whose cells are of another kind than rows of numbers and rows of levels may turn. -/
theorem LvAt.block {w w' : World} {g cap : Nat} {vs : List Value} {L : List Lvl} (h : LvAt F w g cap vs L) (hb : ∀ b, (b = g ∨ ∃ c, w.heap[b]? = some (.cells c 3 (0, 0))) → w'.heap[b]? = w.heap[b]?) : LvAt F w' g cap vs L := by
  refine ⟨ownsRow_block h.row (fun b hg => hb b (.inl ?_)), h.len, fun j hj => (h.its j hj).block (fun b hg => hb b (.inr ?_)), h.fp⟩
  · simp [Value.ownBlock] at hg; exact hg.symm
  · rcases (h.its j hj).2 with ⟨e, _⟩ | ⟨g2, c2, cur, e, _, hh, _⟩
    · rw [e] at hg; simp [Value.ownBlock] at hg
    · rw [e] at hg; simp [Value.ownBlock] at hg; subst hg; exact ⟨cur, hh⟩

theorem lvCells_set0 : ∀ (vs : List Value) (L : List Lvl) (h : Nat) (v : Value) (xs : List Int), vs.length = L.length → lvCells (vs.set h v) (setItems L h xs) = (lvCells vs L).set (h * 2) v := by
  intro vs
  induction vs with
  | nil => intro L h v xs hl; cases L with | nil => simp [lvCells, setItems] | cons => simp at hl
  | cons a vs ih =>
    intro L h v xs hl
    cases L with
    | nil => simp at hl
    | cons l L =>
      cases h with
      | zero => simp [lvCells, setItems]
      | succ h =>
        have := ih L h v xs (by simpa using hl)
        simp only [setItems, List.set_cons_succ, List.getD_cons_succ, lvCells] at this ⊢
        rw [show (h + 1) * 2 = h * 2 + 1 + 1 by omega, List.set_cons_succ, List.set_cons_succ, this]
theorem lvCells_set1 : ∀ (vs : List Value) (L : List Lvl) (h t : Nat), vs.length = L.length → lvCells vs (setTimes L h t) = (lvCells vs L).set (h * 2 + 1) (.int .i64 (t : Int)) := by
  intro vs
  induction vs with
  | nil => intro L h t hl; cases L with | nil => simp [lvCells] | cons => simp at hl
  | cons a vs ih =>
    intro L h t hl
    cases L with
    | nil => simp at hl
    | cons l L =>
      cases h with
      | zero => simp [lvCells, setTimes]
      | succ h =>
        have := ih L h t (by simpa using hl)
        simp only [setTimes, List.set_cons_succ, List.getD_cons_succ, lvCells] at this ⊢
        rw [show (h + 1) * 2 = h * 2 + 1 + 1 by omega, List.set_cons_succ, this]
theorem lvCells_push : ∀ (vs : List Value) (L : List Lvl) (v : Value) (l : Lvl), vs.length = L.length → lvCells (vs ++ [v]) (L ++ [l]) = lvCells vs L ++ [v, .int .i64 (l.times : Int)] := by
  intro vs
  induction vs with
  | nil => intro L v l hl; cases L with | nil => simp [lvCells] | cons => simp at hl
  | cons a vs ih =>
    intro L v l hl
    cases L with
    | nil => simp at hl
    | cons b L => simp [lvCells, ih L v l (by simpa using hl)]

/-- A row of numbers lies in another block than one of levels. -/
theorem LvAt.ne {w : World} {g cap : Nat} {vs : List Value} {L : List Lvl} (h : LvAt F w g cap vs L) {c : Array Value} {t : TypeId} {fr : Nat × Nat} {b : Nat} (hb : w.heap[b]? = some (.cells c t fr)) (ht : t ≠ 125) : b ≠ g := by
  intro e
  subst e
  rcases h.row.2 with ⟨hv, _⟩ | ⟨g', cap', cur', hv, _, hh, _⟩
  · cases hv
  · cases hv; rw [hb] at hh; cases hh; exact ht rfl
theorem Ints.kind {w : World} {v : Value} {xs : List Int} (h : Ints w v xs) {b : Nat} (hb : v.ownBlock = some b) : ∃ c, w.heap[b]? = some (.cells c 3 (0, 0)) := by
  rcases h.2 with ⟨e, _⟩ | ⟨g2, c2, cur, e, _, hh, _⟩
  · rw [e] at hb; simp [Value.ownBlock] at hb
  · rw [e] at hb; simp [Value.ownBlock] at hb; subst hb; exact ⟨cur, hh⟩
theorem Ints.setLv {w : World} {v : Value} {xs : List Int} (h : Ints w v xs) {g cap : Nat} {vs : List Value} {L : List Lvl} (hL : LvAt F w g cap vs L) (j : Nat) (u : Value) : Ints (w.setCell ⟨g, j, none⟩ u) v xs :=
  h.block (fun b hb => by
    obtain ⟨c, hc⟩ := h.kind hb
    exact Below.heap_setCell _ _ _ _ (hL.ne hc (by decide)))

theorem LvAt.setItems {w : World} {g cap : Nat} {vs : List Value} {L : List Lvl} (h : LvAt F w g cap vs L) {v : Value} {xs : List Int} (hv : Ints w v xs) (hF : ∀ b, v.ownBlock = some b → F b) {j : Nat} (hj : j < L.length) :
    LvAt F (w.setCell ⟨g, j * 2, none⟩ v) g cap (vs.set j v) (setItems L j xs) := by
  have hs := (h.row.stored (j * 2) v).1
  rw [← lvCells_set0 vs L j v xs h.len] at hs
  have hl := h.len
  refine ⟨by rw [setItems_length]; exact hs, by rw [setItems_length]; simpa using h.len, fun i hi => ?_, fun i hi b hb => ?_⟩
  rotate_left
  · rw [setItems_length] at hi
    by_cases e : i = j
    · subst e
      have : (vs.set i v).getD i undef = v := by simp [List.getD, hl, hj]
      rw [this] at hb
      exact hF b hb
    · have e1 : (vs.set j v).getD i undef = vs.getD i undef := by simp [List.getD, Ne.symm e]
      rw [e1] at hb
      exact h.fp i hi b hb
  rw [setItems_length] at hi
  by_cases e : i = j
  · subst e
    have : (vs.set i v).getD i undef = v := by simp [List.getD, hl, hj]
    rw [this]
    have : ((Go.Proofs.Ytklicjbpjigfdab.setItems L i xs).getD i Lvl.none).items = xs := by simp [Go.Proofs.Ytklicjbpjigfdab.setItems, List.getD, hj]
    rw [this]
    exact hv.setLv h _ _
  · have e1 : (vs.set j v).getD i undef = vs.getD i undef := by simp [List.getD, Ne.symm e]
    have e2 : (Go.Proofs.Ytklicjbpjigfdab.setItems L j xs).getD i Lvl.none = L.getD i Lvl.none := by simp [Go.Proofs.Ytklicjbpjigfdab.setItems, List.getD, Ne.symm e]
    rw [e1, e2]
    exact (h.its i hi).setLv h _ _
theorem LvAt.setTimes {w : World} {g cap : Nat} {vs : List Value} {L : List Lvl} (h : LvAt F w g cap vs L) {t j : Nat} (hj : j < L.length) :
    LvAt F (w.setCell ⟨g, j * 2 + 1, none⟩ (.int .i64 (t : Int))) g cap vs (setTimes L j t) := by
  have hs := (h.row.stored (j * 2 + 1) (.int .i64 (t : Int))).1
  rw [← lvCells_set1 vs L j t h.len] at hs
  refine ⟨by rw [setTimes_length]; exact hs, by rw [setTimes_length]; exact h.len, fun i hi => ?_, fun i hi => h.fp i (by rwa [setTimes_length] at hi)⟩
  rw [setTimes_length] at hi
  by_cases e : i = j
  · subst e
    have : ((Go.Proofs.Ytklicjbpjigfdab.setTimes L i t).getD i Lvl.none).items = (L.getD i Lvl.none).items := by simp [Go.Proofs.Ytklicjbpjigfdab.setTimes, List.getD, hj]
    rw [this]
    exact (h.its i hi).setLv h _ _
  · have e2 : (Go.Proofs.Ytklicjbpjigfdab.setTimes L j t).getD i Lvl.none = L.getD i Lvl.none := by simp [Go.Proofs.Ytklicjbpjigfdab.setTimes, List.getD, Ne.symm e]
    rw [e2]
    exact (h.its i hi).setLv h _ _

/-- The list of a level: a slice of so many numbers. -/
theorem LvAt.itemsForm {w : World} {g cap : Nat} {vs : List Value} {L : List Lvl} (h : LvAt F w g cap vs L) {j : Nat} (hj : j < L.length) :
    ∃ ao c, vs.getD j undef = .slice ao (L.getD j Lvl.none).items.length c := by
  obtain ⟨ao, c, e, _⟩ := (h.its j hj).form
  exact ⟨ao, c, e⟩

end Go.Proofs.Ytklicjbpjigfdab
