/- DERIVED. Lists in memory: 'Ints w v xs': the slice value v holds the numbers xs at the head of a row of its own (or is nil, and xs is empty); what it gives, and how it is carried from one world to a later one. -/
import Derived.Test.YtklicjbpjigfdabProg
import Derived.WalkKit
import Derived.WalkSpells
import Derived.WalkLawsBesides
namespace Go.Proofs.Ytklicjbpjigfdab
open Go.RowKit

theorem Try.infoInt : (Try.prog.info? 3).map (fun i => (i.zero, i.size, i.bytes)) = some (some (.int .i64 0), 1, 8) := by kernel_rfl
theorem Try.infoBool : (Try.prog.info? 4).map (fun i => (i.zero, i.size, i.bytes)) = some (some (.bool false), 1, 1) := by kernel_rfl

theorem ret_int {k : IntKind} {a b : Int} (h : a = b) : Ending.returned (.int k a) = .returned (.int k b) := by rw [h]

theorem hid {p : Prop} (h : p) : Hid p := h

/-- The cells of a list of numbers. -/
def ints (xs : List Int) : List Value := xs.map (Value.int .i64)
theorem ints_length (xs : List Int) : (ints xs).length = xs.length := by simp [ints]
theorem ints_append (xs ys : List Int) : ints (xs ++ ys) = ints xs ++ ints ys := by simp [ints]

/-- The slice value v holds the numbers xs. -/
def Ints (w : World) (v : Value) (xs : List Int) : Prop := w.ownsRow 0 3 1 v xs.length (ints xs)

/-- Rows do not mind where they begin. -/
theorem ownsRow_base {w : World} {b b' : Nat} {e : TypeId} {size : Nat} {v : Value} {n : Nat} {xs : List Value} (h : w.ownsRow b e size v n xs) (hb : b' ≤ b) : w.ownsRow b' e size v n xs := by
  refine ⟨h.1, ?_⟩
  rcases h.2 with h2 | ⟨g, cap, cur, hv, hg, r⟩
  · exact Or.inl h2
  · exact Or.inr ⟨g, cap, cur, hv, Nat.le_trans hb hg, r⟩

/-- Whoever keeps the row's block keeps the row. -/
theorem ownsRow_block {w w' : World} {b : Nat} {e : TypeId} {size : Nat} {v : Value} {n : Nat} {xs : List Value} (h : w.ownsRow b e size v n xs) (hb : ∀ g, v.ownBlock = some g → w'.heap[g]? = w.heap[g]?) : w'.ownsRow b e size v n xs := by
  refine ⟨h.1, ?_⟩
  rcases h.2 with h2 | ⟨g, cap, cur, hv, hg, hh, r⟩
  · exact Or.inl h2
  · exact Or.inr ⟨g, cap, cur, hv, hg, by rw [hb g (by rw [hv]; rfl)]; exact hh, r⟩

theorem ownsRow_blk {w : World} {b : Nat} {e : TypeId} {size : Nat} {v : Value} {n : Nat} {xs : List Value} (h : w.ownsRow b e size v n xs) {g : Nat} (hg : v.ownBlock = some g) : ∃ c, w.heap[g]? = some (.cells c e (0, 0)) := by
  rcases h.2 with ⟨e', _⟩ | ⟨g', cap, cur, e', _, hh, _⟩
  · rw [e'] at hg; simp [Value.ownBlock] at hg
  · rw [e'] at hg; simp [Value.ownBlock] at hg; subst hg; exact ⟨_, hh⟩
theorem ownsRow_lt {w : World} {b : Nat} {e : TypeId} {size : Nat} {v : Value} {n : Nat} {xs : List Value} (h : w.ownsRow b e size v n xs) {g : Nat} (hg : v.ownBlock = some g) : g < w.heap.size := (h.lt g hg).2

/-- A row that lies below B is kept by all that keeps what is below B. -/
theorem ownsRow_below {w w' : World} {b B : Nat} {e : TypeId} {size : Nat} {v : Value} {n : Nat} {xs : List Value} (h : w.ownsRow b e size v n xs) (hB : Below B w w') (hlt : ∀ g, v.ownBlock = some g → g < B) : w'.ownsRow b e size v n xs :=
  ownsRow_block h (fun g hg => hB.block g (hlt g hg))

theorem Ints.below {w w' : World} {v : Value} {xs : List Int} (h : Ints w v xs) (hB : Below w.heap.size w w') : Ints w' v xs :=
  ownsRow_below h hB (fun _ hg => ownsRow_lt h hg)

theorem Ints.block {w w' : World} {v : Value} {xs : List Int} (h : Ints w v xs) (hb : ∀ g, v.ownBlock = some g → w'.heap[g]? = w.heap[g]?) : Ints w' v xs := ownsRow_block h hb

theorem Ints.nil (w : World) : Ints w (.slice none 0 0) [] := World.ownsRow_nil _ _ _ _

theorem Ints.of {w : World} {b : Nat} {v : Value} {n : Nat} {xs : List Int} (h : w.ownsRow b 3 1 v n (ints xs)) : Ints w v xs := by
  have e : n = xs.length := by have := h.1; rw [ints_length] at this; omega
  subst e
  exact ownsRow_base h (Nat.zero_le _)

/-- The cells of a row, by their places. -/
theorem ownsRow_cell {w : World} {b : Nat} {e : TypeId} {size : Nat} {n cap g off : Nat} {xs : List Value} (h : w.ownsRow b e size (.slice (some ⟨g, off, none⟩) n cap) n xs) {j : Nat} {u : Value} (hj : xs[j]? = some u) : w.cell? ⟨g, j, none⟩ = some u := by
  have := h.cells (g := g) rfl j u hj
  rwa [Addr.add_lit, Nat.zero_add] at this

/-- What a list of numbers in memory is. -/
theorem Ints.form {w : World} {v : Value} {xs : List Int} (h : Ints w v xs) :
    ∃ ao cap, v = .slice ao xs.length cap ∧ xs.length ≤ cap ∧ cap ≤ maxLen ∧ (ao = none → xs = [] ∧ cap = 0) ∧
      ∀ a, ao = some a → ∃ g, a = ⟨g, 0, none⟩ ∧ g < w.heap.size ∧ ∀ t, t < xs.length → w.cell? ⟨g, t, none⟩ = some (.int .i64 (xs.getD t 0)) := by
  have h' := h
  rcases h.2 with ⟨rfl, hn⟩ | ⟨g, cap, cur, rfl, hg, hh, hnc, hcm, hcs, ht⟩
  · have : xs = [] := List.eq_nil_of_length_eq_zero hn
    subst this
    exact ⟨none, 0, rfl, Nat.le_refl _, Nat.zero_le _, (fun _ => ⟨rfl, rfl⟩), fun a ha => by cases ha⟩
  · refine ⟨some ⟨g, 0, none⟩, cap, rfl, hnc, hcm, (fun h => by cases h), fun a ha => ?_⟩
    cases ha
    refine ⟨g, rfl, ownsRow_lt h' rfl, fun t ht => ownsRow_cell h' ?_⟩
    simp [ints, List.getD, ht]

/-- The head of a list. -/
theorem Ints.take {w : World} {g n c : Nat} {xs : List Int} (h : Ints w (.slice (some ⟨g, 0, none⟩) n c) xs) {k : Nat} (hk : k ≤ n) (hn : n = xs.length) : Ints w (.slice (some ⟨g, 0, none⟩) k c) (xs.take k) := by
  rcases h.2 with ⟨e, _⟩ | ⟨g2, c2, cur, e, hb, hh, hnc, hcm, hcs, ht⟩
  · cases e
  · cases e
    refine ⟨by simp [ints], .inr ⟨g, c, cur, by rw [List.length_take, Nat.min_eq_left (by omega)], hb, hh, ?_, hcm, hcs, ?_⟩⟩
    · rw [List.length_take, Nat.min_eq_left (by omega)]; omega
    · rw [List.length_take, Nat.min_eq_left (by omega), Nat.mul_one]
      have := congrArg (List.take k) ht
      rw [List.take_take, Nat.mul_one, Nat.min_eq_left (by omega)] at this
      rw [this]
      simp [ints]

/-- The one new cell of 'append(out, x)'. -/
theorem one_new (w : World) (v : Value) (e : TypeId) : ∀ j u, [v][j]? = some u → (w.alloc (.cells #[v] e)).cell? ((⟨w.heap.size, 0, none⟩ : Addr).add j) = some u := by
  intro j u hu
  match j, hu with
  | 0, hu => simp at hu; subst hu; simp [Addr.add]
theorem one_new' {w : World} {H : Nat} (hH : w.heap.size = H) (v : Value) (e : TypeId) : ∀ j u, [v][j]? = some u → (w.alloc (.cells #[v] e)).cell? ((⟨H, 0, none⟩ : Addr).add j) = some u := by
  subst hH; exact one_new w v e
theorem two_new (w : World) (v u' : Value) (e : TypeId) : ∀ j u, [v, u'][j]? = some u → (w.alloc (.cells #[v, u'] e)).cell? ((⟨w.heap.size, 0, none⟩ : Addr).add j) = some u := by
  intro j u hu
  match j, hu with
  | 0, hu => simp at hu; subst hu; simp [Addr.add]
  | 1, hu => simp at hu; subst hu; simp [Addr.add]
theorem one_cell (k : IntKind) (x : Int) : ∀ u ∈ [Value.int k x], u.oneCell' = true := by
  intro u hu; simp at hu; subst hu; rfl
theorem one_bool (x : Bool) : ∀ u ∈ [Value.bool x], u.oneCell' = true := by
  intro u hu; simp at hu; subst hu; rfl
theorem ints_snoc (xs : List Int) (x : Int) : ints xs ++ [Value.int .i64 x] = ints (xs ++ [x]) := by simp [ints]
theorem ints_one (xs : List Int) : ∀ u ∈ ints xs, u.oneCell' = true := ints_oneCell _ _

/-- A box of four cells is still there behind whatever keeps what was there. -/
theorem box4 {w w1 : World} {a b c d : Value} {e : TypeId} (hb : Below (w.alloc (.cells #[a, b, c, d] e)).heap.size (w.alloc (.cells #[a, b, c, d] e)) w1) :
    w1.cell? ⟨w.heap.size, 0, none⟩ = some a ∧ w1.cell? ⟨w.heap.size, 1, none⟩ = some b ∧ w1.cell? ⟨w.heap.size, 2, none⟩ = some c ∧ w1.cell? ⟨w.heap.size, 3, none⟩ = some d := by
  refine ⟨?_, ?_, ?_, ?_⟩ <;> (refine (hb.cell (by simp)).trans ?_; simp)

/-- A block of four cells, cell by cell. -/
theorem blk4 {w : World} {r : Nat} {a b c d : Value} {e : TypeId} (h : w.heap[r]? = some (.cells #[a, b, c, d] e (0, 0))) :
    w.cell? ⟨r, 0, none⟩ = some a ∧ w.cell? ⟨r, 1, none⟩ = some b ∧ w.cell? ⟨r, 2, none⟩ = some c ∧ w.cell? ⟨r, 3, none⟩ = some d ∧ (∀ o, w.frozen? ⟨r, o, none⟩ = false) := by
  refine ⟨?_, ?_, ?_, ?_, fun o => ?_⟩ <;> simp [World.cell?, World.frozen?, h]
theorem blk2 {w : World} {r : Nat} {a b : Value} {e : TypeId} (h : w.heap[r]? = some (.cells #[a, b] e (0, 0))) :
    w.cell? ⟨r, 0, none⟩ = some a ∧ w.cell? ⟨r, 1, none⟩ = some b ∧ (∀ o, w.frozen? ⟨r, o, none⟩ = false) := by
  refine ⟨?_, ?_, fun o => ?_⟩ <;> simp [World.cell?, World.frozen?, h]
theorem blk3 {w : World} {r : Nat} {a b c : Value} {e : TypeId} (h : w.heap[r]? = some (.cells #[a, b, c] e (0, 0))) :
    w.cell? ⟨r, 0, none⟩ = some a ∧ w.cell? ⟨r, 1, none⟩ = some b ∧ w.cell? ⟨r, 2, none⟩ = some c ∧ (∀ o, w.frozen? ⟨r, o, none⟩ = false) := by
  refine ⟨?_, ?_, ?_, fun o => ?_⟩ <;> simp [World.cell?, World.frozen?, h]
/-- A new block is still there behind a growth of another row. -/
theorem grown_new {w w1 : World} {o : Obj} {row : Option Nat} (h : (w.alloc o).grownBy w1 row) (hr : some w.heap.size ≠ row) : w1.heap[w.heap.size]? = some o := by
  rw [h.block w.heap.size (by simp) hr]
  exact heap_alloc_new w o
theorem below_new {w w1 : World} {o : Obj} {B : Nat} (h : Below B (w.alloc o) w1) (hB : w.heap.size < B) : w1.heap[w.heap.size]? = some o := by
  rw [h.block w.heap.size hB]
  exact heap_alloc_new w o

/-- Four stores into block r leave the other blocks. -/
theorem set4_other {w : World} {r g : Nat} (a b c d : Value) (h : g ≠ r) : ((((w.setCell ⟨r, 0, none⟩ a).setCell ⟨r, 1, none⟩ b).setCell ⟨r, 2, none⟩ c).setCell ⟨r, 3, none⟩ d).heap[g]? = w.heap[g]? := by
  rw [Below.heap_setCell _ _ _ _ h, Below.heap_setCell _ _ _ _ h, Below.heap_setCell _ _ _ _ h, Below.heap_setCell _ _ _ _ h]
theorem below_set4 {B r : Nat} {w0 w : World} (h : Below B w0 w) (hr : B ≤ r) (a b c d : Value) : Below B w0 ((((w.setCell ⟨r, 0, none⟩ a).setCell ⟨r, 1, none⟩ b).setCell ⟨r, 2, none⟩ c).setCell ⟨r, 3, none⟩ d) :=
  (((h.setCell hr a).setCell hr b).setCell hr c).setCell hr d

/-- The first of two new blocks. -/
theorem grown_new2 {w w1 : World} {o o2 : Obj} {row : Option Nat} (h : ((w.alloc o).alloc o2).grownBy w1 row) (hr : some w.heap.size ≠ row) : w1.heap[w.heap.size]? = some o := by
  rw [h.block w.heap.size (by simp; omega) hr, Below.heap_alloc _ _ _ (by simp)]
  exact heap_alloc_new w o
theorem grown_new2' {w w1 : World} {o o2 : Obj} {row : Option Nat} (h : ((w.alloc o).alloc o2).grownBy w1 row) (hr : some (w.heap.size + 1) ≠ row) : w1.heap[w.heap.size + 1]? = some o2 := by
  have e : (w.alloc o).heap.size = w.heap.size + 1 := by simp
  rw [← e] at hr ⊢
  exact grown_new h hr

theorem cell_set_other {w : World} {b g i j : Nat} {v : Value} (h : b ≠ g) : (w.setCell ⟨g, i, none⟩ v).cell? ⟨b, j, none⟩ = w.cell? ⟨b, j, none⟩ := World.cell?_of_block (Below.heap_setCell _ _ _ _ h)
theorem undrew {B : Nat} {w w' : World} (h : Below B w.drew w') : Below B w w' := ⟨h.os, h.tape, h.output, h.size, h.block⟩
theorem setCell_size (w : World) (a : Addr) (v : Value) : (w.setCell a v).heap.size = w.heap.size := by simp [World.setCell]
/-- One number in a new block. -/
theorem Ints.single (w : World) (x : Int) : Ints (w.alloc (.cells #[.int .i64 x] 3)) (.slice (some ⟨w.heap.size, 0, none⟩) 1 1) [x] :=
  ⟨rfl, .inr ⟨w.heap.size, 1, #[.int .i64 x], rfl, Nat.zero_le _, heap_alloc_new _ _, by simp, by unfold maxLen; omega, rfl, rfl⟩⟩
theorem Ints.alloc {w : World} {v : Value} {xs : List Int} (h : Ints w v xs) (o : Obj) : Ints (w.alloc o) v xs := h.below ((Below.refl _ _).alloc (Nat.le_refl _) _)
theorem Ints.drew {w : World} {v : Value} {xs : List Int} (h : Ints w v xs) : Ints w.drew v xs := h
/-- Behind a new block, a draw and a callee that keeps what was there. -/
theorem below_alloc_drew {w w' : World} {o : Obj} (h : Below (w.alloc o).drew.heap.size (w.alloc o).drew w') : Below w.heap.size w w' :=
  ((Below.refl _ _).alloc (Nat.le_refl _) o).trans ((undrew h).mono (by simp [World.drew]))
/-- The slice value v holds these Booleans. -/
def Bools (w : World) (v : Value) (xs : List Bool) : Prop := w.ownsRow 0 4 1 v xs.length (xs.map Value.bool)
theorem Bools.form {w : World} {v : Value} {xs : List Bool} (h : Bools w v xs) :
    ∃ ao cap, v = .slice ao xs.length cap ∧ xs.length ≤ cap ∧ cap ≤ maxLen ∧ (ao = none → xs = [] ∧ cap = 0) ∧
      ∀ a, ao = some a → ∃ g, a = ⟨g, 0, none⟩ ∧ g < w.heap.size ∧ ∀ t, t < xs.length → w.cell? ⟨g, t, none⟩ = some (.bool (xs.getD t false)) := by
  have h' := h
  rcases h.2 with ⟨rfl, hn⟩ | ⟨g, cap, cur, rfl, hg, hh, hnc, hcm, hcs, ht⟩
  · have : xs = [] := List.eq_nil_of_length_eq_zero hn
    subst this
    exact ⟨none, 0, rfl, Nat.le_refl _, Nat.zero_le _, (fun _ => ⟨rfl, rfl⟩), fun a ha => by cases ha⟩
  · refine ⟨some ⟨g, 0, none⟩, cap, rfl, hnc, hcm, (fun h => by cases h), fun a ha => ?_⟩
    cases ha
    refine ⟨g, rfl, ownsRow_lt h' rfl, fun t ht => ownsRow_cell h' ?_⟩
    simp [List.getD, ht]
theorem Bools.below {w w' : World} {v : Value} {xs : List Bool} (h : Bools w v xs) (hB : Below w.heap.size w w') : Bools w' v xs :=
  ownsRow_below h hB (fun _ hg => ownsRow_lt h hg)
theorem lt_of_blk' {w : World} {b : Nat} {o : Obj} (h : w.heap[b]? = some o) : b < w.heap.size := (Array.getElem?_eq_some_iff.1 h).1
/-- The block of a sketch's variable. -/
abbrev skBlk (k g n cap : Nat) (lo hi : Int) : Obj := .cells #[.int .i64 (k : Int), .slice (some ⟨g, 0, none⟩) n cap, .int .i64 lo, .int .i64 hi] 77 (0, 0)
theorem grow_blk2 {b g1 : Nat} {o o2 o' : Obj} {wr w1 : World} (hb : wr.heap[b]? = some o') (hgrow : ((wr.alloc o).alloc o2).grownBy w1 (some g1)) (hne : b ≠ g1) : w1.heap[b]? = some o' := by
  have := lt_of_blk' hb
  rw [hgrow.block b (by simp; omega) (by simpa using hne), Below.heap_alloc _ _ _ (by simp; omega), Below.heap_alloc _ _ _ this]
  exact hb
/-- A block behind a store into it. -/
theorem blk_set {w : World} {b i : Nat} {cur : Array Value} {e : TypeId} {fr : Nat × Nat} (v : Value) (h : w.heap[b]? = some (.cells cur e fr)) : (w.setCell ⟨b, i, none⟩ v).heap[b]? = some (.cells (cur.setIfInBounds i v) e fr) := by
  simp [World.setCell, Array.getElem?_modify, h]

end Go.Proofs.Ytklicjbpjigfdab
