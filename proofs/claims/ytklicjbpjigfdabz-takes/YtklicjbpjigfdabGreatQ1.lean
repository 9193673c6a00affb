/- DERIVED. Plain mathematics of the document's own sketches: a bag of items with their levels; the place of an item among those of its level. -/
import Derived.Test.YtklicjbpjigfdabGreatQ0
import Derived.Test.YtklicjbpjigfdabGreatProg
import Derived.WalkKit
import Derived.WalkSpells
import Derived.WalkLawsBesides
import Derived.Deep.QuietTactic
import Derived.BigQuiet
import Derived.WalkSmall
import Derived.Deep.RegionWith
import Derived.Deep.DrawnRows
namespace Go.Proofs.YtklicjbpjigfdabGreat

/-- An item is ahead of another one of its level. -/
def ahead (a : (Int × Nat) × Nat) (b : (Int × Nat) × Nat) : Bool := a.1.2 == b.1.2 && (decide (a.1.1 < b.1.1) || (a.1.1 == b.1.1 && decide (a.2 < b.2)))
/-- The place of an item among those of its level. -/
def placeB (bag : List (Int × Nat)) (i : Nat) (x : Int × Nat) : Nat := bag.zipIdx.countP fun a => ahead a (x, i)
/-- The numbers of a level. -/
def lvOf (bag : List (Int × Nat)) (h : Nat) : List Int := (bag.filter fun x => x.2 == h).map fun x => x.1
/-- The numbers of a level, each with its place. -/
def rkOf (bag : List (Int × Nat)) (h : Nat) : List (Int × Nat) := (bag.zipIdx.filter fun a => a.1.2 == h).map fun a => (a.1.1, placeB bag a.2 a.1)

theorem zipIdx_lt {α : Type} {l : List α} {a : α × Nat} (h : a ∈ l.zipIdx) : a.2 < l.length := by
  have := List.mem_zipIdx h
  omega
theorem placeB_snoc (bag : List (Int × Nat)) (z : Int × Nat) (i : Nat) (x : Int × Nat) (hi : i < bag.length) : placeB (bag ++ [z]) i x = placeB bag i x + (if z.2 = x.2 ∧ z.1 < x.1 then 1 else 0) := by
  unfold placeB
  rw [List.zipIdx_append, List.countP_append]
  congr 1
  simp only [List.zipIdx_cons, List.zipIdx_nil, List.countP_cons, List.countP_nil, ahead, Nat.zero_add]
  have e : decide (bag.length < i) = false := decide_eq_false (by omega)
  simp [e]
theorem placeB_last (bag : List (Int × Nat)) (z : Int × Nat) : placeB (bag ++ [z]) bag.length z = (lvOf bag z.2).countP fun y => decide (y ≤ z.1) := by
  unfold placeB lvOf
  rw [List.zipIdx_append, List.countP_append]
  have h1 : (([z] : List (Int × Nat)).zipIdx (0 + bag.length)).countP (fun a => ahead a (z, bag.length)) = 0 := by
    simp [ahead]
  rw [h1, Nat.add_zero, List.countP_map, List.countP_filter]
  have h2 : bag.zipIdx.countP (fun a => ahead a (z, bag.length)) = bag.zipIdx.countP (fun a => (fun y : Int × Nat => decide (y.1 ≤ z.1) && y.2 == z.2) a.1) := by
    refine List.countP_congr (fun a ha => ?_)
    have := zipIdx_lt ha
    have e : decide (a.2 < bag.length) = true := decide_eq_true this
    simp only [ahead, e, Bool.and_true, Bool.and_eq_true, beq_iff_eq, Bool.or_eq_true, decide_eq_true_eq]
    omega
  rw [h2]
  have h3 : bag = bag.zipIdx.map (fun a => a.1) := by simp
  conv => rhs; rw [h3]
  rw [List.countP_map]
  rfl

theorem rkOf_fst (bag : List (Int × Nat)) (h : Nat) : (rkOf bag h).map (fun a => a.1) = lvOf bag h := by
  unfold rkOf lvOf
  rw [List.map_map]
  have h3 : bag = bag.zipIdx.map (fun a => a.1) := by simp
  conv => rhs; rw [h3, List.filter_map, List.map_map]
  rfl
theorem rkOf_other (bag : List (Int × Nat)) (z : Int × Nat) (h : Nat) (hz : z.2 ≠ h) : rkOf (bag ++ [z]) h = rkOf bag h := by
  unfold rkOf
  rw [List.zipIdx_append, List.filter_append, List.map_append]
  have e1 : (([z] : List (Int × Nat)).zipIdx (0 + bag.length)).filter (fun a => a.1.2 == h) = [] := by simp [hz]
  rw [e1, List.map_nil, List.append_nil]
  refine List.map_congr_left (fun a ha => ?_)
  obtain ⟨ha1, ha2⟩ := List.mem_filter.1 ha
  have e2 : a.1.2 = h := by simpa using ha2
  rw [placeB_snoc bag z a.2 a.1 (zipIdx_lt ha1), if_neg (fun hh => hz (hh.1.trans e2)), Nat.add_zero]
theorem rkOf_same (bag : List (Int × Nat)) (z : Int × Nat) : rkOf (bag ++ [z]) z.2 = (rkOf bag z.2).map (fun a => (a.1, a.2 + (if z.1 < a.1 then 1 else 0))) ++ [(z.1, (lvOf bag z.2).countP fun y => decide (y ≤ z.1))] := by
  rw [← placeB_last]
  unfold rkOf
  rw [List.zipIdx_append, List.filter_append, List.map_append, List.map_map]
  congr 1
  · refine List.map_congr_left (fun a ha => ?_)
    obtain ⟨ha1, ha2⟩ := List.mem_filter.1 ha
    have e2 : a.1.2 = z.2 := by simpa using ha2
    rw [placeB_snoc bag z a.2 a.1 (zipIdx_lt ha1)]
    simp [e2]
  · simp
theorem zipIdx_bump (B : List Int) (x : Int) (n : Nat) (h : ∀ y ∈ B, x < y) : (B.zipIdx n).map (fun a => (a.1, a.2 + (if x < a.1 then 1 else 0))) = B.zipIdx (n + 1) := by
  induction B generalizing n with
  | nil => rfl
  | cons b B ih =>
    rw [List.zipIdx_cons, List.map_cons, ih (n + 1) (fun y hy => h y (List.mem_cons_of_mem _ hy)), List.zipIdx_cons, if_pos (h b (List.mem_cons_self ..))]
theorem zipIdx_still (A : List Int) (x : Int) (n : Nat) (h : ∀ y ∈ A, y ≤ x) : (A.zipIdx n).map (fun a => (a.1, a.2 + (if x < a.1 then 1 else 0))) = A.zipIdx n := by
  induction A generalizing n with
  | nil => rfl
  | cons b A ih =>
    have h1 := h b (List.mem_cons_self ..)
    rw [List.zipIdx_cons, List.map_cons, ih (n + 1) (fun y hy => h y (List.mem_cons_of_mem _ hy)), if_neg (by omega)]
    rfl
/-- A rising list parts at a number. -/
theorem parts {s : List Int} (hs : s.Pairwise (· ≤ ·)) (x : Int) : ∃ A B, s = A ++ B ∧ (∀ y ∈ A, y ≤ x) ∧ (∀ y ∈ B, x < y) := by
  induction s with
  | nil => exact ⟨[], [], rfl, by simp, by simp⟩
  | cons a s ih =>
    obtain ⟨A, B, h1, h2, h3⟩ := ih (List.Pairwise.of_cons hs)
    by_cases ha : a ≤ x
    · refine ⟨a :: A, B, by rw [h1]; rfl, fun y hy => ?_, h3⟩
      rcases List.mem_cons.1 hy with rfl | hy
      · exact ha
      · exact h2 y hy
    · refine ⟨[], a :: s, rfl, by simp, fun y hy => ?_⟩
      rcases List.mem_cons.1 hy with rfl | hy
      · omega
      · have := (List.pairwise_cons.1 hs).1 y hy
        omega
theorem snoc_ind {α : Type} {P : List α → Prop} (h0 : P []) (h1 : ∀ l z, P l → P (l ++ [z])) (l : List α) : P l := by
  have h : ∀ r : List α, P r.reverse := fun r => by
    induction r with
    | nil => exact h0
    | cons a r ih => rw [List.reverse_cons]; exact h1 _ _ ih
  simpa using h l.reverse
/-- The numbers of a level with their places are the level in rising order, counted through. -/
theorem rkOf_perm (h : Nat) (bag : List (Int × Nat)) : ∃ s : List Int, s.Pairwise (· ≤ ·) ∧ (rkOf bag h).Perm s.zipIdx := by
  refine snoc_ind (P := fun bag => ∃ s : List Int, s.Pairwise (· ≤ ·) ∧ (rkOf bag h).Perm s.zipIdx) ?_ ?_ bag
  · exact ⟨[], List.Pairwise.nil, List.Perm.refl _⟩
  · rintro bag z ⟨s, hs, hp⟩
    by_cases hz : z.2 = h
    · subst hz
      obtain ⟨A, B, rfl, hA, hB⟩ := parts hs z.1
      refine ⟨A ++ z.1 :: B, ?_, ?_⟩
      · obtain ⟨p1, p2, p3⟩ := List.pairwise_append.1 hs
        refine List.pairwise_append.2 ⟨p1, List.pairwise_cons.2 ⟨fun y hy => Int.le_of_lt (hB y hy), p2⟩, fun a ha b hb => ?_⟩
        rcases List.mem_cons.1 hb with rfl | hb
        · exact hA a ha
        · exact p3 a ha b hb
      · have hc : (lvOf bag z.2).countP (fun y => decide (y ≤ z.1)) = A.length := by
          rw [← rkOf_fst, List.Perm.countP_eq _ (hp.map fun a => a.1)]
          have e : (A ++ B).zipIdx.map (fun a => a.1) = A ++ B := by simp
          rw [e, List.countP_append, List.countP_eq_length.2 (fun y hy => by simpa using hA y hy), List.countP_eq_zero.2 (fun y hy => by have := hB y hy; simp; omega)]
          rfl
        rw [rkOf_same, hc]
        refine ((hp.map _).append_right _).trans ?_
        rw [List.zipIdx_append, List.map_append, zipIdx_still A z.1 _ hA, zipIdx_bump B z.1 _ hB, List.zipIdx_append, List.zipIdx_cons]
        rw [List.append_assoc]
        refine List.Perm.append_left _ ?_
        rw [Nat.zero_add]
        exact List.perm_append_comm
    · rw [rkOf_other bag z h hz]
      exact ⟨s, hs, hp⟩

end Go.Proofs.YtklicjbpjigfdabGreat

/- DERIVED. Levels in memory: 'LvAt F w g cap vs L': block g holds the levels L (their lists at the values vs). -/
namespace Go.Proofs.YtklicjbpjigfdabGreat
open Go.RowKit
variable {F : Nat → Prop}

theorem Tryz.infoLevel : (Tryz.prog.info? 140).map (fun i => (i.zero, i.size, i.bytes)) = some (some (.agg #[.slice none 0 0, .int .i64 0]), 2, 32) := by kernel_rfl

/-- The cells of levels. -/
def lvCells : List Value → List Lvl → List Value
  | v :: vs, l :: L => v :: .int .i64 (l.times : Int) :: lvCells vs L
  | _, _ => []

theorem lvCells_length : ∀ (vs : List Value) (L : List Lvl), vs.length = L.length → (lvCells vs L).length = L.length * 2 := by
  intro vs
  induction vs with
  | nil => intro L h; cases L with | nil => simp [lvCells] | cons => simp at h
  | cons v vs ih =>
    intro L h
    cases L with
    | nil => simp at h
    | cons l L => simp only [lvCells, List.length_cons, ih L (by simpa using h)]; omega

theorem lvCells_at0 : ∀ (vs : List Value) (L : List Lvl) (j : Nat), vs.length = L.length → j < L.length → (lvCells vs L)[j * 2]? = some (vs.getD j undef) := by
  intro vs
  induction vs with
  | nil => intro L j h hj; simp at h; omega
  | cons v vs ih =>
    intro L j h hj
    cases L with
    | nil => simp at hj
    | cons l L =>
      cases j with
      | zero => simp [lvCells]
      | succ j =>
        rw [lvCells, show (j + 1) * 2 = j * 2 + 1 + 1 by omega, List.getElem?_cons_succ, List.getElem?_cons_succ, ih L j (by simpa using h) (by simpa using hj)]
        simp
theorem lvCells_at1 : ∀ (vs : List Value) (L : List Lvl) (j : Nat), vs.length = L.length → j < L.length → (lvCells vs L)[j * 2 + 1]? = some (.int .i64 ((L.getD j Lvl.none).times : Int)) := by
  intro vs
  induction vs with
  | nil => intro L j h hj; simp at h; omega
  | cons v vs ih =>
    intro L j h hj
    cases L with
    | nil => simp at hj
    | cons l L =>
      cases j with
      | zero => simp [lvCells]
      | succ j =>
        rw [lvCells, show (j + 1) * 2 + 1 = (j * 2 + 1) + 1 + 1 by omega, List.getElem?_cons_succ, List.getElem?_cons_succ, ih L j (by simpa using h) (by simpa using hj)]
        simp

theorem lvCells_one : ∀ (vs : List Value) (L : List Lvl), (∀ h, h < L.length → (vs.getD h undef).oneCell' = true) → ∀ u ∈ lvCells vs L, u.oneCell' = true := by
  intro vs
  induction vs with
  | nil => intro L _ u hu; cases L <;> simp [lvCells] at hu
  | cons v vs ih =>
    intro L h u hu
    cases L with
    | nil => simp [lvCells] at hu
    | cons l L =>
      simp only [lvCells, List.mem_cons] at hu
      rcases hu with rfl | rfl | hu
      · have := h 0 (by simp); simpa using this
      · rfl
      · exact ih L (fun j hj => by have := h (j + 1) (by simpa using hj); simpa using this) u hu

/-- Block g holds the levels L; their lists lie in blocks of F. -/
structure LvAt (F : Nat → Prop) (w : World) (g cap : Nat) (vs : List Value) (L : List Lvl) : Prop where
  row : w.ownsRow 0 140 2 (.slice (some ⟨g, 0, none⟩) L.length cap) L.length (lvCells vs L)
  len : vs.length = L.length
  its : ∀ h, h < L.length → Ints w (vs.getD h undef) (L.getD h Lvl.none).items
  fp : ∀ h, h < L.length → ∀ b, (vs.getD h undef).ownBlock = some b → F b

theorem LvAt.lt {w : World} {g cap : Nat} {vs : List Value} {L : List Lvl} (h : LvAt F w g cap vs L) : g < w.heap.size := ownsRow_lt h.row rfl
theorem LvAt.cell0 {w : World} {g cap : Nat} {vs : List Value} {L : List Lvl} (h : LvAt F w g cap vs L) {j : Nat} (hj : j < L.length) : w.cell? ⟨g, j * 2, none⟩ = some (vs.getD j undef) :=
  ownsRow_cell h.row (lvCells_at0 vs L j h.len hj)
theorem LvAt.cell1 {w : World} {g cap : Nat} {vs : List Value} {L : List Lvl} (h : LvAt F w g cap vs L) {j : Nat} (hj : j < L.length) : w.cell? ⟨g, j * 2 + 1, none⟩ = some (.int .i64 ((L.getD j Lvl.none).times : Int)) :=
  ownsRow_cell h.row (lvCells_at1 vs L j h.len hj)
theorem LvAt.drew {w : World} {g cap : Nat} {vs : List Value} {L : List Lvl} (h : LvAt F w g cap vs L) : LvAt F w.drew g cap vs L := ⟨h.row, h.len, h.its, h.fp⟩
theorem LvAt.free {w : World} {g cap : Nat} {vs : List Value} {L : List Lvl} (h : LvAt F w g cap vs L) (j : Nat) : w.frozen? ⟨g, j, none⟩ = false := by
  rcases h.row.2 with ⟨hv, _⟩ | ⟨g', cap', cur', hv, _, hh, _⟩
  · cases hv
  · cases hv; simp [World.frozen?, hh]
theorem LvAt.below {w w' : World} {g cap : Nat} {vs : List Value} {L : List Lvl} (h : LvAt F w g cap vs L) (hB : Below w.heap.size w w') : LvAt F w' g cap vs L :=
  ⟨ownsRow_below h.row hB (fun _ hg => ownsRow_lt h.row hg), h.len, fun j hj => (h.its j hj).below hB, h.fp⟩
theorem LvAt.one {w : World} {g cap : Nat} {vs : List Value} {L : List Lvl} (h : LvAt F w g cap vs L) : ∀ u ∈ lvCells vs L, u.oneCell' = true :=
  lvCells_one vs L (fun j hj => by obtain ⟨ao, c, e⟩ := (h.its j hj).form; rw [e.1]; rfl)

/-- Whoever keeps all rows keeps the levels: only blocks whose cells are of another kind than rows of numbers and rows of levels may turn. -/
theorem LvAt.block {w w' : World} {g cap : Nat} {vs : List Value} {L : List Lvl} (h : LvAt F w g cap vs L) (hb : ∀ b, (b = g ∨ ∃ c, w.heap[b]? = some (.cells c 3 (0, 0))) → w'.heap[b]? = w.heap[b]?) : LvAt F w' g cap vs L := by
  refine ⟨ownsRow_block h.row (fun b hg => hb b (.inl ?_)), h.len, fun j hj => (h.its j hj).block (fun b hg => hb b (.inr ?_)), h.fp⟩
  · simp [Value.ownBlock] at hg; exact hg.symm
  · rcases (h.its j hj).2 with ⟨e, _⟩ | ⟨g2, c2, cur, e, _, hh, _⟩
    · rw [e] at hg; simp [Value.ownBlock] at hg
    · rw [e] at hg; simp [Value.ownBlock] at hg; subst hg; exact ⟨cur, hh⟩

theorem lvCells_set0 : ∀ (vs : List Value) (L : List Lvl) (h : Nat) (v : Value) (xs : List Int), vs.length = L.length → lvCells (vs.set h v) (setItems L h xs) = (lvCells vs L).set (h * 2) v := by
  intro vs
  induction vs with
  | nil => intro L h v xs hl; cases L with | nil => simp [lvCells, setItems] | cons => simp at hl
  | cons a vs ih =>
    intro L h v xs hl
    cases L with
    | nil => simp at hl
    | cons l L =>
      cases h with
      | zero => simp [lvCells, setItems]
      | succ h =>
        have := ih L h v xs (by simpa using hl)
        simp only [setItems, List.set_cons_succ, List.getD_cons_succ, lvCells] at this ⊢
        rw [show (h + 1) * 2 = h * 2 + 1 + 1 by omega, List.set_cons_succ, List.set_cons_succ, this]
theorem lvCells_set1 : ∀ (vs : List Value) (L : List Lvl) (h t : Nat), vs.length = L.length → lvCells vs (setTimes L h t) = (lvCells vs L).set (h * 2 + 1) (.int .i64 (t : Int)) := by
  intro vs
  induction vs with
  | nil => intro L h t hl; cases L with | nil => simp [lvCells] | cons => simp at hl
  | cons a vs ih =>
    intro L h t hl
    cases L with
    | nil => simp at hl
    | cons l L =>
      cases h with
      | zero => simp [lvCells, setTimes]
      | succ h =>
        have := ih L h t (by simpa using hl)
        simp only [setTimes, List.set_cons_succ, List.getD_cons_succ, lvCells] at this ⊢
        rw [show (h + 1) * 2 = h * 2 + 1 + 1 by omega, List.set_cons_succ, this]
theorem lvCells_push : ∀ (vs : List Value) (L : List Lvl) (v : Value) (l : Lvl), vs.length = L.length → lvCells (vs ++ [v]) (L ++ [l]) = lvCells vs L ++ [v, .int .i64 (l.times : Int)] := by
  intro vs
  induction vs with
  | nil => intro L v l hl; cases L with | nil => simp [lvCells] | cons => simp at hl
  | cons a vs ih =>
    intro L v l hl
    cases L with
    | nil => simp at hl
    | cons b L => simp [lvCells, ih L v l (by simpa using hl)]

/-- A row of numbers lies in another block than one of levels. -/
theorem LvAt.ne {w : World} {g cap : Nat} {vs : List Value} {L : List Lvl} (h : LvAt F w g cap vs L) {c : Array Value} {t : TypeId} {fr : Nat × Nat} {b : Nat} (hb : w.heap[b]? = some (.cells c t fr)) (ht : t ≠ 140) : b ≠ g := by
  intro e
  subst e
  rcases h.row.2 with ⟨hv, _⟩ | ⟨g', cap', cur', hv, _, hh, _⟩
  · cases hv
  · cases hv; rw [hb] at hh; cases hh; exact ht rfl
theorem Ints.kind {w : World} {v : Value} {xs : List Int} (h : Ints w v xs) {b : Nat} (hb : v.ownBlock = some b) : ∃ c, w.heap[b]? = some (.cells c 3 (0, 0)) := by
  rcases h.2 with ⟨e, _⟩ | ⟨g2, c2, cur, e, _, hh, _⟩
  · rw [e] at hb; simp [Value.ownBlock] at hb
  · rw [e] at hb; simp [Value.ownBlock] at hb; subst hb; exact ⟨cur, hh⟩
theorem Ints.setLv {w : World} {v : Value} {xs : List Int} (h : Ints w v xs) {g cap : Nat} {vs : List Value} {L : List Lvl} (hL : LvAt F w g cap vs L) (j : Nat) (u : Value) : Ints (w.setCell ⟨g, j, none⟩ u) v xs :=
  h.block (fun b hb => by
    obtain ⟨c, hc⟩ := h.kind hb
    exact Below.heap_setCell _ _ _ _ (hL.ne hc (by decide)))

theorem LvAt.setItems {w : World} {g cap : Nat} {vs : List Value} {L : List Lvl} (h : LvAt F w g cap vs L) {v : Value} {xs : List Int} (hv : Ints w v xs) (hF : ∀ b, v.ownBlock = some b → F b) {j : Nat} (hj : j < L.length) :
    LvAt F (w.setCell ⟨g, j * 2, none⟩ v) g cap (vs.set j v) (setItems L j xs) := by
  have hs := (h.row.stored (j * 2) v).1
  rw [← lvCells_set0 vs L j v xs h.len] at hs
  have hl := h.len
  refine ⟨by rw [setItems_length]; exact hs, by rw [setItems_length]; simpa using h.len, fun i hi => ?_, fun i hi b hb => ?_⟩
  rotate_left
  · rw [setItems_length] at hi
    by_cases e : i = j
    · subst e
      have : (vs.set i v).getD i undef = v := by simp [List.getD, hl, hj]
      rw [this] at hb
      exact hF b hb
    · have e1 : (vs.set j v).getD i undef = vs.getD i undef := by simp [List.getD, Ne.symm e]
      rw [e1] at hb
      exact h.fp i hi b hb
  rw [setItems_length] at hi
  by_cases e : i = j
  · subst e
    have : (vs.set i v).getD i undef = v := by simp [List.getD, hl, hj]
    rw [this]
    have : ((Go.Proofs.YtklicjbpjigfdabGreat.setItems L i xs).getD i Lvl.none).items = xs := by simp [Go.Proofs.YtklicjbpjigfdabGreat.setItems, List.getD, hj]
    rw [this]
    exact hv.setLv h _ _
  · have e1 : (vs.set j v).getD i undef = vs.getD i undef := by simp [List.getD, Ne.symm e]
    have e2 : (Go.Proofs.YtklicjbpjigfdabGreat.setItems L j xs).getD i Lvl.none = L.getD i Lvl.none := by simp [Go.Proofs.YtklicjbpjigfdabGreat.setItems, List.getD, Ne.symm e]
    rw [e1, e2]
    exact (h.its i hi).setLv h _ _
theorem LvAt.setTimes {w : World} {g cap : Nat} {vs : List Value} {L : List Lvl} (h : LvAt F w g cap vs L) {t j : Nat} (hj : j < L.length) :
    LvAt F (w.setCell ⟨g, j * 2 + 1, none⟩ (.int .i64 (t : Int))) g cap vs (setTimes L j t) := by
  have hs := (h.row.stored (j * 2 + 1) (.int .i64 (t : Int))).1
  rw [← lvCells_set1 vs L j t h.len] at hs
  refine ⟨by rw [setTimes_length]; exact hs, by rw [setTimes_length]; exact h.len, fun i hi => ?_, fun i hi => h.fp i (by rwa [setTimes_length] at hi)⟩
  rw [setTimes_length] at hi
  by_cases e : i = j
  · subst e
    have : ((Go.Proofs.YtklicjbpjigfdabGreat.setTimes L i t).getD i Lvl.none).items = (L.getD i Lvl.none).items := by simp [Go.Proofs.YtklicjbpjigfdabGreat.setTimes, List.getD, hj]
    rw [this]
    exact (h.its i hi).setLv h _ _
  · have e2 : (Go.Proofs.YtklicjbpjigfdabGreat.setTimes L j t).getD i Lvl.none = L.getD i Lvl.none := by simp [Go.Proofs.YtklicjbpjigfdabGreat.setTimes, List.getD, Ne.symm e]
    rw [e2]
    exact (h.its i hi).setLv h _ _

/-- The list of a level: a slice of so many numbers. -/
theorem LvAt.itemsForm {w : World} {g cap : Nat} {vs : List Value} {L : List Lvl} (h : LvAt F w g cap vs L) {j : Nat} (hj : j < L.length) :
    ∃ ao c, vs.getD j undef = .slice ao (L.getD j Lvl.none).items.length c := by
  obtain ⟨ao, c, e, _⟩ := (h.its j hj).form
  exact ⟨ao, c, e⟩

end Go.Proofs.YtklicjbpjigfdabGreat

/- DERIVED. The walk of capacityOf: it returns capOf of its arguments, and changes nothing. -/
namespace Go.Proofs.YtklicjbpjigfdabGreat
open Go.RowKit



set_option maxHeartbeats 400000 in
theorem capacityOf_any (k d : Nat) (w : World) (hk : k ≤ 64) (hd : d ≤ 30) :
    Calls Tryz.prog 127 #[.int .i64 (k : Int), .int .i64 (d : Int)] w fun e w' => e = .returned (.int .i64 (capOf k d : Int)) ∧ w' = w := by
  go_enter Tryz.func127, Tryz.ntmps127
  go_wp2
  go_loop [5, 6, 7] (fun a b i => ∃ j : Nat, j ≤ d ∧ i = .int .i64 j ∧ a = .int .i64 ((2 ^ j : Nat) : Int) ∧ b = .int .i64 ((3 ^ j : Nat) : Int)) (fun _ _ i => d - (intOf i).toNat)
  case atStart => exact ⟨0, Nat.zero_le _, rfl, rfl, rfl⟩
  case round =>
    obtain ⟨j, hj, rfl, rfl, rfl⟩ := hrel
    have b2 := pow2_bd (j := j) (by omega)
    have b3 := pow3_bd (j := j) (by omega)
    by_cases hlt : j < d
    · have HS2 : Hid ((2 ^ (j + 1) : Nat) = 2 ^ j * 2) := Nat.pow_succ ..
      have HS3 : Hid ((3 ^ (j + 1) : Nat) = 3 ^ j * 3) := Nat.pow_succ ..
      generalize 2 ^ j = p2 at *
      generalize 3 ^ j = p3 at *
      go_wp2
      go_round
      case rel => exact ⟨j + 1, by omega, by go_num, by rw [HS2.out]; go_num, by rw [HS3.out]; go_num⟩
      case measure => simp [intOf]; omega
    · have : j = d := by omega
      subst this
      have HC : Hid (capOf k j = capFrom k (3 ^ j) (2 ^ j) k 2) := rfl
      generalize 2 ^ j = p2 at *
      generalize 3 ^ j = p3 at *
      go_wp2
      go_loop [8] (fun t => ∃ c f : Nat, c + f = k + 2 ∧ t = .int .i64 (c : Int) ∧ Hid (capOf k j = capFrom k p3 p2 f c)) (fun t => k - (intOf t).toNat)
      case atStart => exact ⟨2, k, by omega, rfl, HC⟩
      case round =>
        obtain ⟨c, f, hcf, rfl, hc⟩ := hrel
        have m1 : (c : Int) * (p3 : Int) ≤ 13588814718246834 := mul_bd (a := 66) (by omega) b3
        have m2 : (k : Int) * (p2 : Int) ≤ 68719476736 := mul_bd hk b2
        have m3 := mul_nn c p3
        have m4 := mul_nn k p2
        by_cases h1 : c < k
        · by_cases h2 : (c : Int) * (p3 : Int) < (k : Int) * (p2 : Int)
          · go_wp2
            go_round
            case rel =>
              obtain ⟨f', rfl⟩ : ∃ f', f = f' + 1 := ⟨f - 1, by omega⟩
              refine ⟨c + 1, f', by omega, by go_num, ?_⟩
              have h2' : c * p3 < k * p2 := mul_lt_cast.1 h2
              exact hc.out.trans (capFrom_step ⟨h1, h2'⟩)
            case measure => simp [intOf]; omega
          · have HF : Hid (capOf k j = c) := hc.out.trans (capFrom_stop (fun h => h2 (mul_lt_cast.2 h.2)))
            go_wp2
            go_ret
            exact ⟨ret_int (by rw [HF.out]), rfl⟩
        · have HF : Hid (capOf k j = c) := hc.out.trans (capFrom_stop (fun h => h1 h.1))
          go_wp2
          go_ret
          exact ⟨ret_int (by rw [HF.out]), rfl⟩

end Go.Proofs.YtklicjbpjigfdabGreat

/- DERIVED. The walks over a sketch's levels that only read: items, Count, capacity, toThin. -/
namespace Go.Proofs.YtklicjbpjigfdabGreat
open Go.RowKit
variable {F : Nat → Prop}

/-- A sketch as a value. -/
abbrev skVal (k g n cap : Nat) (lo hi : Int) : Value := .agg #[.int .i64 (k : Int), .slice (some ⟨g, 0, none⟩) n cap, .int .i64 lo, .int .i64 hi]

set_option maxHeartbeats 400000 in
theorem items_any (k g cap : Nat) (lo hi : Int) (vs : List Value) (L : List Lvl) (w : World) (hL : LvAt F w g cap vs L) (hlen : L.length ≤ 64) (hbd : nsum L ≤ 1099511627776) :
    Calls Tryz.prog 96 #[skVal k g L.length cap lo hi] w fun e w' => e = .returned (.int .i64 (nsum L : Int)) ∧ Below w.heap.size w w' := by
  obtain ⟨n, hn⟩ : ∃ n, n = L.length := ⟨_, rfl⟩
  have HN : Hid (n = L.length) := hn
  rw [← hn] at hlen ⊢
  clear hn
  go_enter Tryz.func96, Tryz.ntmps96
  go_wp2
  go_loopw [3, 9] (fun t i wr => ∃ j c : Nat, j ≤ n ∧ i = .int .i64 j ∧ t = .int .i64 c ∧ Hid (c + nsum (L.drop j) = nsum L) ∧ Below w.heap.size w wr) (fun _ i _ => n - (intOf i).toNat)
  case atStart => exact ⟨0, 0, Nat.zero_le _, rfl, rfl, by simp [Hid], (Below.refl _ _).alloc (Nat.le_refl _) _⟩
  case round =>
    obtain ⟨j, c, hj, rfl, rfl, hc, hb⟩ := hrel
    by_cases hlt : j < n
    · have hlt' : j < L.length := by rw [← HN.out]; exact hlt
      obtain ⟨ao, cc, ev⟩ := hL.itemsForm hlt'
      have c0 : wr.cell? ⟨g, j * 2, none⟩ = some (.slice ao (L.getD j Lvl.none).items.length cc) := (hb.cell (by exact hL.lt)).trans ((hL.cell0 hlt').trans (by rw [ev]))
      have c1 : wr.cell? ⟨g, j * 2 + 1, none⟩ = some (.int .i64 ((L.getD j Lvl.none).times : Int)) := (hb.cell (by exact hL.lt)).trans (hL.cell1 hlt')
      have HS : Hid (nsum (L.drop j) = (L.getD j Lvl.none).items.length + nsum (L.drop (j + 1))) := nsum_drop L j hlt'
      have hcb : c + (L.getD j Lvl.none).items.length ≤ 1099511627776 := by have := HS.out; have := hc.out; omega
      generalize (L.getD j Lvl.none).items.length = m at *
      generalize (L.getD j Lvl.none).times = tm at *
      clear ev
      go_wp2
      go_roundw
      case rel =>
        refine ⟨j + 1, c + m, by omega, by go_num, by go_num, ?_, ?_⟩
        · have := HS.out; have := hc.out; unfold Hid; omega
        · exact hb.alloc hb.size _
      case measure => simp [intOf]; omega
    · have HE : Hid (c = nsum L) := by have := nsum_end L j (by rw [← HN.out]; omega); have := hc.out; unfold Hid; omega
      go_wp2
      go_ret
      exact ⟨ret_int (by rw [HE.out]), hb⟩

set_option maxHeartbeats 400000 in
theorem count_any (k g cap : Nat) (lo hi : Int) (vs : List Value) (L : List Lvl) (w : World) (hL : LvAt F w g cap vs L) (hlen : L.length ≤ 30) (hbd : wsum L ≤ 1099511627776) :
    Calls Tryz.prog 60 #[skVal k g L.length cap lo hi] w fun e w' => e = .returned (.int .i64 (wsum L : Int)) ∧ Below w.heap.size w w' := by
  obtain ⟨n, hn⟩ : ∃ n, n = L.length := ⟨_, rfl⟩
  have HN : Hid (n = L.length) := hn
  rw [← hn] at hlen ⊢
  clear hn
  go_enter Tryz.func60, Tryz.ntmps60
  go_wp2
  go_loopw [3, 4, 10] (fun t p i wr => ∃ j c : Nat, j ≤ n ∧ i = .int .i64 j ∧ p = .int .i64 ((2 ^ j : Nat) : Int) ∧ t = .int .i64 c ∧ Hid (c + 2 ^ j * wsum (L.drop j) = wsum L) ∧ Below w.heap.size w wr) (fun _ _ i _ => n - (intOf i).toNat)
  case atStart => exact ⟨0, 0, Nat.zero_le _, rfl, rfl, rfl, by simp [Hid], (Below.refl _ _).alloc (Nat.le_refl _) _⟩
  case round =>
    obtain ⟨j, c, hj, rfl, rfl, rfl, hc, hb⟩ := hrel
    by_cases hlt : j < n
    · have hlt' : j < L.length := by rw [← HN.out]; exact hlt
      obtain ⟨ao, cc, ev⟩ := hL.itemsForm hlt'
      have c0 : wr.cell? ⟨g, j * 2, none⟩ = some (.slice ao (L.getD j Lvl.none).items.length cc) := (hb.cell (by exact hL.lt)).trans ((hL.cell0 hlt').trans (by rw [ev]))
      have c1 : wr.cell? ⟨g, j * 2 + 1, none⟩ = some (.int .i64 ((L.getD j Lvl.none).times : Int)) := (hb.cell (by exact hL.lt)).trans (hL.cell1 hlt')
      have HS : Hid ((c + 2 ^ j * (L.getD j Lvl.none).items.length) + (2 ^ j * 2) * wsum (L.drop (j + 1)) = wsum L) := wstep hlt' hc.out
      have HP : Hid (2 ^ (j + 1) = 2 ^ j * 2) := Nat.pow_succ ..
      have b2 := pow2_bd (j := j) (by omega)
      generalize (L.getD j Lvl.none).items.length = m at *
      generalize (L.getD j Lvl.none).times = tm at *
      generalize 2 ^ j = p at *
      have hcb : (c : Int) + (p : Int) * (m : Int) ≤ 1099511627776 := by
        have := HS.out
        rw [← Int.natCast_mul]
        generalize p * m = pm at *
        omega
      have hnn := mul_nn p m
      clear ev
      go_wp2
      go_roundw
      case rel =>
        refine ⟨j + 1, c + p * m, by omega, by go_num, by rw [HP.out]; go_num, by rw [Int.natCast_add, Int.natCast_mul], ?_, hb.alloc hb.size _⟩
        rw [HP.out]; exact HS
      case measure => simp [intOf]; omega
    · have HE : Hid (c = wsum L) := by have := wsum_end L j (by rw [← HN.out]; omega); have := hc.out; rw [‹wsum (L.drop j) = 0›] at this; unfold Hid; omega
      go_wp2
      go_ret
      exact ⟨ret_int (by rw [HE.out]), hb⟩

theorem capacityAt_any (k g cap n h d : Nat) (lo hi : Int) (w : World) (hk : k ≤ 64) (hlen : n ≤ 30) (hd : n = h + 1 + d) :
    Calls Tryz.prog 124 #[skVal k g n cap lo hi, .int .i64 (h : Int)] w fun e w' => e = .returned (.int .i64 (capOf k d : Int)) ∧ Below w.heap.size w w' := by
  have HD : Hid (n = h + 1 + d) := hd
  have e : (n : Int) - 1 - (h : Int) = (d : Int) := by omega
  have hh : h ≤ 30 := by omega
  clear hd
  go_enter Tryz.func124, Tryz.ntmps124
  go_wp2_with fail
  refine (capacityOf_any k d _ hk (by have := HD.out; omega)).mono ?_
  rintro e w' ⟨rfl, rfl⟩
  go_wp2
  go_ret
  exact ⟨rfl, (Below.refl _ _).alloc (Nat.le_refl _) _⟩

set_option maxHeartbeats 400000 in
theorem capacity_any (k g cap n : Nat) (lo hi : Int) (w : World) (hk : k ≤ 64) (hlen : n ≤ 30) :
    Calls Tryz.prog 123 #[skVal k g n cap lo hi] w fun e w' => e = .returned (.int .i64 (capSum k n : Int)) ∧ Below w.heap.size w w' := by
  have hcs := capSum_bd k n hk
  go_enter Tryz.func123, Tryz.ntmps123
  go_wp2
  go_loopw [3, 8] (fun t i wr => ∃ j c : Nat, j ≤ n ∧ i = .int .i64 j ∧ t = .int .i64 c ∧ Hid (c + capSum k (n - j) = capSum k n) ∧ Below (w.alloc (.cells #[.int .i64 (k : Int), .slice (some ⟨g, 0, none⟩) n cap, .int .i64 lo, .int .i64 hi] 64)).heap.size (w.alloc (.cells #[.int .i64 (k : Int), .slice (some ⟨g, 0, none⟩) n cap, .int .i64 lo, .int .i64 hi] 64)) wr) (fun _ i _ => n - (intOf i).toNat)
  case atStart => exact ⟨0, 0, Nat.zero_le _, rfl, rfl, by simp [Hid], Below.refl _ _⟩
  case round =>
    obtain ⟨j, c, hj, rfl, rfl, hc, hb⟩ := hrel
    obtain ⟨b0, b1, b2, b3⟩ := box4 hb
    have HB := hid hb
    clear hb
    by_cases hlt : j < n
    · obtain ⟨d, hd⟩ : ∃ d, n = j + 1 + d := ⟨n - (j + 1), by omega⟩
      have HS : Hid (c + (capSum k d + capOf k d) = capSum k n) := by
        have := hc.out
        rw [show n - j = d + 1 by omega, capSum] at this
        exact this
      have hcb : c + capOf k d ≤ 1920 := by have := HS.out; omega
      have HD : Hid (n = j + 1 + d) := hd
      clear hd
      go_wp2_with fail
      refine (capacityAt_any k g cap n j d lo hi _ hk hlen HD.out).mono ?_
      rintro e w' ⟨rfl, hb'⟩
      generalize capOf k d = cd at *
      go_wp2
      go_roundw
      case rel =>
        refine ⟨j + 1, c + cd, by omega, by go_num, by go_num, ?_, HB.out.trans (hb'.mono HB.out.size)⟩
        have := HS.out; have := HD.out
        rw [show n - (j + 1) = d by omega]; unfold Hid; omega
      case measure => simp [intOf]; omega
    · have HE : Hid (c = capSum k n) := by have := hc.out; rw [show n - j = 0 by omega, capSum] at this; exact this
      go_wp2
      go_ret
      exact ⟨ret_int (by rw [HE.out]), ((Below.refl _ _).alloc (Nat.le_refl _) _).trans (HB.out.mono (by simp))⟩

theorem crowd_drop {k n j : Nat} {L : List Lvl} (h : j < L.length) : crowd k n j (L.drop j) = if capOf k (n - 1 - j) < (L.getD j Lvl.none).items.length then some j else crowd k n (j + 1) (L.drop (j + 1)) := by
  rw [lv_drop L j h, crowd]

/-- What toThin answers. -/
def thinAns : Option Nat → Value
  | Option.none => .tuple #[.int .i64 0, .bool false]
  | some h => .tuple #[.int .i64 (h : Int), .bool true]

attribute [local go_sem ↓] Go.wp_at_zero Go.wp_at_succ
set_option maxHeartbeats 1000000 in
theorem toThin_any (k g cap : Nat) (lo hi : Int) (vs : List Value) (L : List Lvl) (w : World) (hL : LvAt F w g cap vs L) (hk : k ≤ 64) (hlen : L.length ≤ 30) (hbd : nsum L ≤ 1099511627776) :
    Calls Tryz.prog 107 #[skVal k g L.length cap lo hi] w fun e w' => e = .returned (thinAns (Sk.toThin ⟨k, L, lo, hi⟩)) ∧ Below w.heap.size w w' := by
  have hitems := items_any (F := F) k g cap lo hi vs L
  have hcapac := fun w => capacity_any k g cap L.length lo hi w hk hlen
  obtain ⟨n, hn⟩ : ∃ n, n = L.length := ⟨_, rfl⟩
  have HN : Hid (n = L.length) := hn
  have hlen' : n ≤ 30 := by omega
  have hns : nsum L ≤ 1099511627776 := hbd
  rw [← hn] at hitems hcapac ⊢
  clear hn hlen hbd
  have H1 : Hid (∀ w, LvAt F w g cap vs L → Calls Tryz.prog 96 #[skVal k g n cap lo hi] w fun e w' => e = .returned (.int .i64 (nsum L : Int)) ∧ Below w.heap.size w w') := fun w h => hitems w h (by omega) hns
  have H2 : Hid (∀ w, Calls Tryz.prog 123 #[skVal k g n cap lo hi] w fun e w' => e = .returned (.int .i64 (capSum k n : Int)) ∧ Below w.heap.size w w') := hcapac
  clear hitems hcapac
  go_enter Tryz.func107, Tryz.ntmps107
  go_wp2_with fail
  refine (H1.out _ (hL.below ((Below.refl _ _).alloc (Nat.le_refl _) _))).mono ?_
  rintro e w1 ⟨rfl, hb1⟩
  obtain ⟨b0, b1, b2, b3⟩ := box4 hb1
  go_wp2_with fail
  refine (H2.out _).mono ?_
  rintro e w2 ⟨rfl, hb2⟩
  have hb12 : Below w.heap.size w w1 := ((Below.refl _ _).alloc (Nat.le_refl _) _).trans (hb1.mono (by simp))
  have d0 := cell_later hb2 b0
  have d1 := cell_later hb2 b1
  have d2 := cell_later hb2 b2
  have d3 := cell_later hb2 b3
  have hw2 : Below w.heap.size w w2 := hb12.trans (hb2.mono hb12.size)
  have hbz : w.heap.size < w2.heap.size := World.block_lt_of_cell? w2 ⟨w.heap.size, 0, none⟩ d0
  clear b0 b1 b2 b3 hb1 hb2 H1 H2
  by_cases hle : nsum L ≤ capSum k n
  · have HT : Hid (Sk.toThin ⟨k, L, lo, hi⟩ = Option.none) := by unfold Hid Sk.toThin; simp only [← HN.out]; rw [if_pos hle]
    generalize nsum L = ns at *
    generalize capSum k n = cs at *
    go_wp2_with fail
    go_ret2
    exact ⟨by rw [HT.out]; rfl, hw2⟩
  · have HT : Hid (Sk.toThin ⟨k, L, lo, hi⟩ = crowd k n 0 L) := by unfold Hid Sk.toThin; simp only [← HN.out]; rw [if_neg hle]
    generalize nsum L = ns at *
    generalize capSum k n = cs at *
    go_wp2_with fail
    go_loopw [16] (fun i wr => ∃ j : Nat, j ≤ n ∧ i = .int .i64 j ∧ Hid (crowd k n j (L.drop j) = crowd k n 0 L) ∧ Below w2.heap.size w2 wr) (fun i _ => n - (intOf i).toNat)
    case atStart => exact ⟨0, Nat.zero_le _, rfl, rfl, Below.refl _ _⟩
    case round =>
      obtain ⟨j, hj, rfl, hc, hb⟩ := hrel
      have e0 := cell_later hb d0
      have e1 := cell_later hb d1
      have e2 := cell_later hb d2
      have e3 := cell_later hb d3
      by_cases hlt : j < n
      · have hlt' : j < L.length := by rw [← HN.out]; exact hlt
        have hL2 : LvAt F wr g cap vs L := (hL.below hw2).below (hb)
        obtain ⟨ao, cc, ev⟩ := hL2.itemsForm hlt'
        have c0 : wr.cell? ⟨g, j * 2, none⟩ = some (.slice ao (L.getD j Lvl.none).items.length cc) := (hL2.cell0 hlt').trans (by rw [ev])
        have c1 : wr.cell? ⟨g, j * 2 + 1, none⟩ = some (.int .i64 ((L.getD j Lvl.none).times : Int)) := hL2.cell1 hlt'
        have HS : Hid (crowd k n j (L.drop j) = if capOf k (n - 1 - j) < (L.getD j Lvl.none).items.length then some j else crowd k n (j + 1) (L.drop (j + 1))) := crowd_drop hlt'
        obtain ⟨d, hd⟩ : ∃ d, n = j + 1 + d := ⟨n - (j + 1), by omega⟩
        have ed : n - 1 - j = d := by omega
        rw [ed] at HS
        have HD : Hid (n = j + 1 + d) := hd
        have hcap := fun w => capacityAt_any k g cap n j d lo hi w hk hlen' HD.out
        clear hd ed ev
        generalize (L.getD j Lvl.none).items.length = m at *
        generalize (L.getD j Lvl.none).times = tm at *
        generalize capOf k d = cd at *
        have HC := hid hcap
        have hz : w.heap.size < wr.heap.size := by have := hb.size; omega
        have HB := hid hb
        clear hcap hb
        go_wp2_with fail
        go_region_with (first | (go_at_call 124; refine (HC.out _).mono ?_; rintro e w' ⟨rfl, hb'⟩; have f0 : w'.cell? ⟨wr.heap.size, 0, none⟩ = some (.slice ao m cc) := (hb'.cell (by simp [World.drew])).trans (by simp [go_sem]); have HB3 := hid (below_alloc_drew hb'); clear hb'))
        all_goals
          by_cases hgt : cd < m
          · go_wp2
            go_ret2
            refine ⟨?_, ?_⟩
            · have := hc.out
              rw [HS.out, if_pos hgt] at this
              rw [HT.out, ← this]; rfl
            · exact hw2.trans ((HB.out.trans (HB3.out.mono HB.out.size)).mono hw2.size)
          · go_wp2
            go_roundw
            case rel =>
              refine ⟨j + 1, by omega, by go_num, ?_, HB.out.trans (HB3.out.mono HB.out.size)⟩
              have := hc.out
              rw [HS.out, if_neg hgt] at this
              exact this
            case measure => simp [intOf]; omega
      · have HE : Hid (crowd k n 0 L = Option.none) := by
          have := hc.out
          rw [List.drop_eq_nil_of_le (by rw [← HN.out]; omega), crowd] at this
          exact this.symm
        go_wp2
        go_ret2
        exact ⟨by rw [HT.out, HE.out]; rfl, hw2.trans (hb.mono hw2.size)⟩

end Go.Proofs.YtklicjbpjigfdabGreat
