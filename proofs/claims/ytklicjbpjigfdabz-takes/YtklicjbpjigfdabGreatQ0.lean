/- DERIVED. Lists in memory: 'Ints w v xs': the slice value v holds the numbers xs at the head of a row of its own (or is nil, and xs is empty); what it gives, and how it is carried from one world to a later one. -/
import Derived.Test.YtklicjbpjigfdabGreatProg
import Derived.WalkKit
import Derived.WalkSpells
import Derived.WalkLawsBesides
namespace Go.Proofs.YtklicjbpjigfdabGreat
open Go.RowKit

theorem Tryz.infoInt : (Tryz.prog.info? 3).map (fun i => (i.zero, i.size, i.bytes)) = some (some (.int .i64 0), 1, 8) := by kernel_rfl
theorem Tryz.infoBool : (Tryz.prog.info? 4).map (fun i => (i.zero, i.size, i.bytes)) = some (some (.bool false), 1, 1) := by kernel_rfl

theorem ret_int {k : IntKind} {a b : Int} (h : a = b) : Ending.returned (.int k a) = .returned (.int k b) := by rw [h]

theorem hid {p : Prop} (h : p) : Hid p := h

/-- The cells of a list of numbers. -/
def ints (xs : List Int) : List Value := xs.map (Value.int .i64)
theorem ints_length (xs : List Int) : (ints xs).length = xs.length := by simp [ints]
theorem ints_append (xs ys : List Int) : ints (xs ++ ys) = ints xs ++ ints ys := by simp [ints]

/-- The slice value v holds the numbers xs. -/
def Ints (w : World) (v : Value) (xs : List Int) : Prop := w.ownsRow 0 3 1 v xs.length (ints xs)

/-- Rows do not mind where they begin. -/
theorem ownsRow_base {w : World} {b b' : Nat} {e : TypeId} {size : Nat} {v : Value} {n : Nat} {xs : List Value} (h : w.ownsRow b e size v n xs) (hb : b' ≤ b) : w.ownsRow b' e size v n xs := by
  refine ⟨h.1, ?_⟩
  rcases h.2 with h2 | ⟨g, cap, cur, hv, hg, r⟩
  · exact Or.inl h2
  · exact Or.inr ⟨g, cap, cur, hv, Nat.le_trans hb hg, r⟩

/-- Whoever keeps the row's block keeps the row. -/
theorem ownsRow_block {w w' : World} {b : Nat} {e : TypeId} {size : Nat} {v : Value} {n : Nat} {xs : List Value} (h : w.ownsRow b e size v n xs) (hb : ∀ g, v.ownBlock = some g → w'.heap[g]? = w.heap[g]?) : w'.ownsRow b e size v n xs := by
  refine ⟨h.1, ?_⟩
  rcases h.2 with h2 | ⟨g, cap, cur, hv, hg, hh, r⟩
  · exact Or.inl h2
  · exact Or.inr ⟨g, cap, cur, hv, hg, by rw [hb g (by rw [hv]; rfl)]; exact hh, r⟩

theorem ownsRow_blk {w : World} {b : Nat} {e : TypeId} {size : Nat} {v : Value} {n : Nat} {xs : List Value} (h : w.ownsRow b e size v n xs) {g : Nat} (hg : v.ownBlock = some g) : ∃ c, w.heap[g]? = some (.cells c e (0, 0)) := by
  rcases h.2 with ⟨e', _⟩ | ⟨g', cap, cur, e', _, hh, _⟩
  · rw [e'] at hg; simp [Value.ownBlock] at hg
  · rw [e'] at hg; simp [Value.ownBlock] at hg; subst hg; exact ⟨_, hh⟩
theorem ownsRow_lt {w : World} {b : Nat} {e : TypeId} {size : Nat} {v : Value} {n : Nat} {xs : List Value} (h : w.ownsRow b e size v n xs) {g : Nat} (hg : v.ownBlock = some g) : g < w.heap.size := (h.lt g hg).2

/-- A row that lies below B is kept by all that keeps what is below B. -/
theorem ownsRow_below {w w' : World} {b B : Nat} {e : TypeId} {size : Nat} {v : Value} {n : Nat} {xs : List Value} (h : w.ownsRow b e size v n xs) (hB : Below B w w') (hlt : ∀ g, v.ownBlock = some g → g < B) : w'.ownsRow b e size v n xs :=
  ownsRow_block h (fun g hg => hB.block g (hlt g hg))

theorem Ints.below {w w' : World} {v : Value} {xs : List Int} (h : Ints w v xs) (hB : Below w.heap.size w w') : Ints w' v xs :=
  ownsRow_below h hB (fun _ hg => ownsRow_lt h hg)

theorem Ints.block {w w' : World} {v : Value} {xs : List Int} (h : Ints w v xs) (hb : ∀ g, v.ownBlock = some g → w'.heap[g]? = w.heap[g]?) : Ints w' v xs := ownsRow_block h hb

theorem Ints.nil (w : World) : Ints w (.slice none 0 0) [] := World.ownsRow_nil _ _ _ _

theorem Ints.of {w : World} {b : Nat} {v : Value} {n : Nat} {xs : List Int} (h : w.ownsRow b 3 1 v n (ints xs)) : Ints w v xs := by
  have e : n = xs.length := by have := h.1; rw [ints_length] at this; omega
  subst e
  exact ownsRow_base h (Nat.zero_le _)

/-- The cells of a row, by their places. -/
theorem ownsRow_cell {w : World} {b : Nat} {e : TypeId} {size : Nat} {n cap g off : Nat} {xs : List Value} (h : w.ownsRow b e size (.slice (some ⟨g, off, none⟩) n cap) n xs) {j : Nat} {u : Value} (hj : xs[j]? = some u) : w.cell? ⟨g, j, none⟩ = some u := by
  have := h.cells (g := g) rfl j u hj
  rwa [Addr.add_lit, Nat.zero_add] at this

/-- What a list of numbers in memory is. -/
theorem Ints.form {w : World} {v : Value} {xs : List Int} (h : Ints w v xs) :
    ∃ ao cap, v = .slice ao xs.length cap ∧ xs.length ≤ cap ∧ cap ≤ maxLen ∧ (ao = none → xs = [] ∧ cap = 0) ∧
      ∀ a, ao = some a → ∃ g, a = ⟨g, 0, none⟩ ∧ g < w.heap.size ∧ ∀ t, t < xs.length → w.cell? ⟨g, t, none⟩ = some (.int .i64 (xs.getD t 0)) := by
  have h' := h
  rcases h.2 with ⟨rfl, hn⟩ | ⟨g, cap, cur, rfl, hg, hh, hnc, hcm, hcs, ht⟩
  · have : xs = [] := List.eq_nil_of_length_eq_zero hn
    subst this
    exact ⟨none, 0, rfl, Nat.le_refl _, Nat.zero_le _, (fun _ => ⟨rfl, rfl⟩), fun a ha => by cases ha⟩
  · refine ⟨some ⟨g, 0, none⟩, cap, rfl, hnc, hcm, (fun h => by cases h), fun a ha => ?_⟩
    cases ha
    refine ⟨g, rfl, ownsRow_lt h' rfl, fun t ht => ownsRow_cell h' ?_⟩
    simp [ints, List.getD, ht]

/-- The head of a list. -/
theorem Ints.take {w : World} {g n c : Nat} {xs : List Int} (h : Ints w (.slice (some ⟨g, 0, none⟩) n c) xs) {k : Nat} (hk : k ≤ n) (hn : n = xs.length) : Ints w (.slice (some ⟨g, 0, none⟩) k c) (xs.take k) := by
  rcases h.2 with ⟨e, _⟩ | ⟨g2, c2, cur, e, hb, hh, hnc, hcm, hcs, ht⟩
  · cases e
  · cases e
    refine ⟨by simp [ints], .inr ⟨g, c, cur, by rw [List.length_take, Nat.min_eq_left (by omega)], hb, hh, ?_, hcm, hcs, ?_⟩⟩
    · rw [List.length_take, Nat.min_eq_left (by omega)]; omega
    · rw [List.length_take, Nat.min_eq_left (by omega), Nat.mul_one]
      have := congrArg (List.take k) ht
      rw [List.take_take, Nat.mul_one, Nat.min_eq_left (by omega)] at this
      rw [this]
      simp [ints]

/-- The one new cell of 'append(out, x)'. -/
theorem one_new (w : World) (v : Value) (e : TypeId) : ∀ j u, [v][j]? = some u → (w.alloc (.cells #[v] e)).cell? ((⟨w.heap.size, 0, none⟩ : Addr).add j) = some u := by
  intro j u hu
  match j, hu with
  | 0, hu => simp at hu; subst hu; simp [Addr.add]
theorem one_new' {w : World} {H : Nat} (hH : w.heap.size = H) (v : Value) (e : TypeId) : ∀ j u, [v][j]? = some u → (w.alloc (.cells #[v] e)).cell? ((⟨H, 0, none⟩ : Addr).add j) = some u := by
  subst hH; exact one_new w v e
theorem two_new (w : World) (v u' : Value) (e : TypeId) : ∀ j u, [v, u'][j]? = some u → (w.alloc (.cells #[v, u'] e)).cell? ((⟨w.heap.size, 0, none⟩ : Addr).add j) = some u := by
  intro j u hu
  match j, hu with
  | 0, hu => simp at hu; subst hu; simp [Addr.add]
  | 1, hu => simp at hu; subst hu; simp [Addr.add]
theorem one_cell (k : IntKind) (x : Int) : ∀ u ∈ [Value.int k x], u.oneCell' = true := by
  intro u hu; simp at hu; subst hu; rfl
theorem one_bool (x : Bool) : ∀ u ∈ [Value.bool x], u.oneCell' = true := by
  intro u hu; simp at hu; subst hu; rfl
theorem ints_snoc (xs : List Int) (x : Int) : ints xs ++ [Value.int .i64 x] = ints (xs ++ [x]) := by simp [ints]
theorem ints_one (xs : List Int) : ∀ u ∈ ints xs, u.oneCell' = true := ints_oneCell _ _

/-- A box of four cells is still there behind whatever keeps what was there. -/
theorem box4 {w w1 : World} {a b c d : Value} {e : TypeId} (hb : Below (w.alloc (.cells #[a, b, c, d] e)).heap.size (w.alloc (.cells #[a, b, c, d] e)) w1) :
    w1.cell? ⟨w.heap.size, 0, none⟩ = some a ∧ w1.cell? ⟨w.heap.size, 1, none⟩ = some b ∧ w1.cell? ⟨w.heap.size, 2, none⟩ = some c ∧ w1.cell? ⟨w.heap.size, 3, none⟩ = some d := by
  refine ⟨?_, ?_, ?_, ?_⟩ <;> (refine (hb.cell (by simp)).trans ?_; simp)

/-- A block of four cells, cell by cell. -/
theorem blk4 {w : World} {r : Nat} {a b c d : Value} {e : TypeId} (h : w.heap[r]? = some (.cells #[a, b, c, d] e (0, 0))) :
    w.cell? ⟨r, 0, none⟩ = some a ∧ w.cell? ⟨r, 1, none⟩ = some b ∧ w.cell? ⟨r, 2, none⟩ = some c ∧ w.cell? ⟨r, 3, none⟩ = some d ∧ (∀ o, w.frozen? ⟨r, o, none⟩ = false) := by
  refine ⟨?_, ?_, ?_, ?_, fun o => ?_⟩ <;> simp [World.cell?, World.frozen?, h]
theorem blk2 {w : World} {r : Nat} {a b : Value} {e : TypeId} (h : w.heap[r]? = some (.cells #[a, b] e (0, 0))) :
    w.cell? ⟨r, 0, none⟩ = some a ∧ w.cell? ⟨r, 1, none⟩ = some b ∧ (∀ o, w.frozen? ⟨r, o, none⟩ = false) := by
  refine ⟨?_, ?_, fun o => ?_⟩ <;> simp [World.cell?, World.frozen?, h]
theorem blk3 {w : World} {r : Nat} {a b c : Value} {e : TypeId} (h : w.heap[r]? = some (.cells #[a, b, c] e (0, 0))) :
    w.cell? ⟨r, 0, none⟩ = some a ∧ w.cell? ⟨r, 1, none⟩ = some b ∧ w.cell? ⟨r, 2, none⟩ = some c ∧ (∀ o, w.frozen? ⟨r, o, none⟩ = false) := by
  refine ⟨?_, ?_, ?_, fun o => ?_⟩ <;> simp [World.cell?, World.frozen?, h]
/-- A new block is still there behind a growth of another row. -/
theorem grown_new {w w1 : World} {o : Obj} {row : Option Nat} (h : (w.alloc o).grownBy w1 row) (hr : some w.heap.size ≠ row) : w1.heap[w.heap.size]? = some o := by
  rw [h.block w.heap.size (by simp) hr]
  exact heap_alloc_new w o
theorem below_new {w w1 : World} {o : Obj} {B : Nat} (h : Below B (w.alloc o) w1) (hB : w.heap.size < B) : w1.heap[w.heap.size]? = some o := by
  rw [h.block w.heap.size hB]
  exact heap_alloc_new w o

/-- Four stores into block r leave the other blocks. -/
theorem set4_other {w : World} {r g : Nat} (a b c d : Value) (h : g ≠ r) : ((((w.setCell ⟨r, 0, none⟩ a).setCell ⟨r, 1, none⟩ b).setCell ⟨r, 2, none⟩ c).setCell ⟨r, 3, none⟩ d).heap[g]? = w.heap[g]? := by
  rw [Below.heap_setCell _ _ _ _ h, Below.heap_setCell _ _ _ _ h, Below.heap_setCell _ _ _ _ h, Below.heap_setCell _ _ _ _ h]
theorem below_set4 {B r : Nat} {w0 w : World} (h : Below B w0 w) (hr : B ≤ r) (a b c d : Value) : Below B w0 ((((w.setCell ⟨r, 0, none⟩ a).setCell ⟨r, 1, none⟩ b).setCell ⟨r, 2, none⟩ c).setCell ⟨r, 3, none⟩ d) :=
  (((h.setCell hr a).setCell hr b).setCell hr c).setCell hr d

/-- The first of two new blocks. -/
theorem grown_new2 {w w1 : World} {o o2 : Obj} {row : Option Nat} (h : ((w.alloc o).alloc o2).grownBy w1 row) (hr : some w.heap.size ≠ row) : w1.heap[w.heap.size]? = some o := by
  rw [h.block w.heap.size (by simp; omega) hr, Below.heap_alloc _ _ _ (by simp)]
  exact heap_alloc_new w o
theorem grown_new2' {w w1 : World} {o o2 : Obj} {row : Option Nat} (h : ((w.alloc o).alloc o2).grownBy w1 row) (hr : some (w.heap.size + 1) ≠ row) : w1.heap[w.heap.size + 1]? = some o2 := by
  have e : (w.alloc o).heap.size = w.heap.size + 1 := by simp
  rw [← e] at hr ⊢
  exact grown_new h hr

theorem cell_set_other {w : World} {b g i j : Nat} {v : Value} (h : b ≠ g) : (w.setCell ⟨g, i, none⟩ v).cell? ⟨b, j, none⟩ = w.cell? ⟨b, j, none⟩ := World.cell?_of_block (Below.heap_setCell _ _ _ _ h)
theorem undrew {B : Nat} {w w' : World} (h : Below B w.drew w') : Below B w w' := ⟨h.os, h.tape, h.output, h.size, h.block⟩
theorem setCell_size (w : World) (a : Addr) (v : Value) : (w.setCell a v).heap.size = w.heap.size := by simp [World.setCell]
/-- One number in a new block. -/
theorem Ints.single (w : World) (x : Int) : Ints (w.alloc (.cells #[.int .i64 x] 3)) (.slice (some ⟨w.heap.size, 0, none⟩) 1 1) [x] :=
  ⟨rfl, .inr ⟨w.heap.size, 1, #[.int .i64 x], rfl, Nat.zero_le _, heap_alloc_new _ _, by simp, by unfold maxLen; omega, rfl, rfl⟩⟩
theorem Ints.alloc {w : World} {v : Value} {xs : List Int} (h : Ints w v xs) (o : Obj) : Ints (w.alloc o) v xs := h.below ((Below.refl _ _).alloc (Nat.le_refl _) _)
theorem Ints.drew {w : World} {v : Value} {xs : List Int} (h : Ints w v xs) : Ints w.drew v xs := h
/-- Behind a new block, a draw and a callee that keeps what was there. -/
theorem below_alloc_drew {w w' : World} {o : Obj} (h : Below (w.alloc o).drew.heap.size (w.alloc o).drew w') : Below w.heap.size w w' :=
  ((Below.refl _ _).alloc (Nat.le_refl _) o).trans ((undrew h).mono (by simp [World.drew]))
/-- The slice value v holds these Booleans. -/
def Bools (w : World) (v : Value) (xs : List Bool) : Prop := w.ownsRow 0 4 1 v xs.length (xs.map Value.bool)
theorem Bools.form {w : World} {v : Value} {xs : List Bool} (h : Bools w v xs) :
    ∃ ao cap, v = .slice ao xs.length cap ∧ xs.length ≤ cap ∧ cap ≤ maxLen ∧ (ao = none → xs = [] ∧ cap = 0) ∧
      ∀ a, ao = some a → ∃ g, a = ⟨g, 0, none⟩ ∧ g < w.heap.size ∧ ∀ t, t < xs.length → w.cell? ⟨g, t, none⟩ = some (.bool (xs.getD t false)) := by
  have h' := h
  rcases h.2 with ⟨rfl, hn⟩ | ⟨g, cap, cur, rfl, hg, hh, hnc, hcm, hcs, ht⟩
  · have : xs = [] := List.eq_nil_of_length_eq_zero hn
    subst this
    exact ⟨none, 0, rfl, Nat.le_refl _, Nat.zero_le _, (fun _ => ⟨rfl, rfl⟩), fun a ha => by cases ha⟩
  · refine ⟨some ⟨g, 0, none⟩, cap, rfl, hnc, hcm, (fun h => by cases h), fun a ha => ?_⟩
    cases ha
    refine ⟨g, rfl, ownsRow_lt h' rfl, fun t ht => ownsRow_cell h' ?_⟩
    simp [List.getD, ht]
theorem Bools.below {w w' : World} {v : Value} {xs : List Bool} (h : Bools w v xs) (hB : Below w.heap.size w w') : Bools w' v xs :=
  ownsRow_below h hB (fun _ hg => ownsRow_lt h hg)
theorem lt_of_blk' {w : World} {b : Nat} {o : Obj} (h : w.heap[b]? = some o) : b < w.heap.size := (Array.getElem?_eq_some_iff.1 h).1
/-- The block of a sketch's variable. -/
abbrev skBlk (k g n cap : Nat) (lo hi : Int) : Obj := .cells #[.int .i64 (k : Int), .slice (some ⟨g, 0, none⟩) n cap, .int .i64 lo, .int .i64 hi] 64 (0, 0)
theorem grow_blk2 {b g1 : Nat} {o o2 o' : Obj} {wr w1 : World} (hb : wr.heap[b]? = some o') (hgrow : ((wr.alloc o).alloc o2).grownBy w1 (some g1)) (hne : b ≠ g1) : w1.heap[b]? = some o' := by
  have := lt_of_blk' hb
  rw [hgrow.block b (by simp; omega) (by simpa using hne), Below.heap_alloc _ _ _ (by simp; omega), Below.heap_alloc _ _ _ this]
  exact hb
/-- A block behind a store into it. -/
theorem blk_set {w : World} {b i : Nat} {cur : Array Value} {e : TypeId} {fr : Nat × Nat} (v : Value) (h : w.heap[b]? = some (.cells cur e fr)) : (w.setCell ⟨b, i, none⟩ v).heap[b]? = some (.cells (cur.setIfInBounds i v) e fr) := by
  simp [World.setCell, Array.getElem?_modify, h]

end Go.Proofs.YtklicjbpjigfdabGreat

/- DERIVED. Plain mathematics of capacities: capOf k d is what the program's search for a capacity comes to. -/
namespace Go.Proofs.YtklicjbpjigfdabGreat
open Go.RowKit

/-- The search's steps: from c on, at most so many. -/
def capFrom (k t3 t2 : Nat) : Nat → Nat → Nat
  | 0, c => c
  | f + 1, c => if c < k ∧ c * t3 < k * t2 then capFrom k t3 t2 f (c + 1) else c

/-- The capacity of the level that has d levels above it. -/
def capOf (k d : Nat) : Nat := capFrom k (3 ^ d) (2 ^ d) k 2

theorem capFrom_stop {k t3 t2 f c : Nat} (h : ¬ (c < k ∧ c * t3 < k * t2)) : capFrom k t3 t2 f c = c := by
  cases f with
  | zero => rfl
  | succ f => rw [capFrom, if_neg h]

theorem capFrom_step {k t3 t2 f c : Nat} (h : c < k ∧ c * t3 < k * t2) : capFrom k t3 t2 (f + 1) c = capFrom k t3 t2 f (c + 1) := by
  rw [capFrom, if_pos h]

theorem pow2_le {j d : Nat} (h : j ≤ d) : 2 ^ j ≤ 2 ^ d := Nat.pow_le_pow_right (by decide) h
theorem pow3_le {j d : Nat} (h : j ≤ d) : 3 ^ j ≤ 3 ^ d := Nat.pow_le_pow_right (by decide) h
theorem pow2_bd {j : Nat} (h : j ≤ 30) : 2 ^ j ≤ 1073741824 := pow2_le (d := 30) h
theorem pow3_bd {j : Nat} (h : j ≤ 30) : 3 ^ j ≤ 205891132094649 := pow3_le (d := 30) h

theorem mul_bd {c p a b : Nat} (h : c ≤ a) (h' : p ≤ b) : (c : Int) * (p : Int) ≤ ((a * b : Nat) : Int) := by
  have := Nat.mul_le_mul h h'
  rw [← Int.natCast_mul]
  exact Int.ofNat_le.2 this
theorem mul_nn (c p : Nat) : 0 ≤ (c : Int) * (p : Int) := by
  rw [← Int.natCast_mul]
  exact Int.natCast_nonneg _
theorem mul_lt_cast {a b c d : Nat} : (a : Int) * (b : Int) < (c : Int) * (d : Int) ↔ a * b < c * d := by
  rw [← Int.natCast_mul, ← Int.natCast_mul]
  exact Int.ofNat_lt

end Go.Proofs.YtklicjbpjigfdabGreat

/- DERIVED. Plain mathematics of joining two lists in rising order: jn A B is what the program's 'joined' comes to. -/
namespace Go.Proofs.YtklicjbpjigfdabGreat

def jn : List Int → List Int → List Int
  | A, [] => A
  | A, x :: B => A.takeWhile (fun a => decide (a ≤ x)) ++ x :: jn (A.dropWhile (fun a => decide (a ≤ x))) B

theorem jn_nil (A : List Int) : jn A [] = A := rfl
theorem jn_le {a x : Int} {A B : List Int} (h : a ≤ x) : jn (a :: A) (x :: B) = a :: jn A (x :: B) := by
  simp [jn, h]
theorem jn_gt {a x : Int} {A B : List Int} (h : ¬ a ≤ x) : jn (a :: A) (x :: B) = x :: jn (a :: A) B := by
  simp [jn, h]
theorem jn_end {x : Int} {B : List Int} : jn [] (x :: B) = x :: jn [] B := by simp [jn]

theorem jn_length (B : List Int) : ∀ A, (jn A B).length = A.length + B.length := by
  induction B with
  | nil => intro A; simp [jn]
  | cons x B ih =>
    intro A
    simp only [jn, List.length_append, List.length_cons, ih]
    have := congrArg List.length (List.takeWhile_append_dropWhile (p := fun a => decide (a ≤ x)) (l := A))
    simp only [List.length_append] at this
    omega

theorem drop_at (A : List Int) (i : Nat) (h : i < A.length) : A.drop i = A[i] :: A.drop (i + 1) := List.drop_eq_getElem_cons h

/-- A step: an element of A goes first. -/
theorem step_a {A B xs J : List Int} {i t : Nat} (hi : i < A.length) (ht : t < B.length) (h : xs ++ jn (A.drop i) (B.drop t) = J) (hle : A[i] ≤ B[t]) : (xs ++ [A[i]]) ++ jn (A.drop (i + 1)) (B.drop t) = J := by
  rw [← h, drop_at A i hi, drop_at B t ht, jn_le hle]; simp
/-- A step: the element of B goes. -/
theorem step_b {A B xs J : List Int} {i t : Nat} (ht : t < B.length) (h : xs ++ jn (A.drop i) (B.drop t) = J) (hgt : ∀ hi : i < A.length, ¬ A[i] ≤ B[t]) : (xs ++ [B[t]]) ++ jn (A.drop i) (B.drop (t + 1)) = J := by
  rw [← h, drop_at B t ht]
  by_cases hi : i < A.length
  · rw [drop_at A i hi, jn_gt (hgt hi)]; simp
  · rw [List.drop_eq_nil_of_le (by omega), jn_end]; simp
theorem step_end {A B xs J : List Int} {i t : Nat} (ht : B.length ≤ t) (h : xs ++ jn (A.drop i) (B.drop t) = J) : xs ++ A.drop i = J := by
  rw [← h, List.drop_eq_nil_of_le ht, jn_nil]

end Go.Proofs.YtklicjbpjigfdabGreat

/- DERIVED. Plain mathematics of sketches: levels, counts, capacities. -/
namespace Go.Proofs.YtklicjbpjigfdabGreat

/-- A level: its items, and how many times it was thinned. -/
structure Lvl where
  items : List Int
  times : Nat

/-- A sketch: its K, its levels, the least and the greatest that came in. -/
structure Sk where
  k : Nat
  lv : List Lvl
  lo : Int
  hi : Int

def Lvl.none : Lvl := { items := [], times := 0 }

/-- What the items weigh. -/
def wsum : List Lvl → Nat
  | [] => 0
  | l :: L => l.items.length + 2 * wsum L
/-- How many items there are. -/
def nsum : List Lvl → Nat
  | [] => 0
  | l :: L => l.items.length + nsum L
/-- The capacity of n levels. -/
def capSum (k : Nat) : Nat → Nat
  | 0 => 0
  | n + 1 => capSum k n + capOf k n
/-- The lowest level, from h on, that has more items than its capacity. -/
def crowd (k n : Nat) : Nat → List Lvl → Option Nat
  | _, [] => Option.none
  | h, l :: L => if capOf k (n - 1 - h) < l.items.length then some h else crowd k n (h + 1) L
/-- The level to be thinned. -/
def Sk.toThin (s : Sk) : Option Nat := if nsum s.lv ≤ capSum s.k s.lv.length then Option.none else crowd s.k s.lv.length 0 s.lv

/-- Every second one, the first among them. -/
def evens : List Int → List Int
  | [] => []
  | [x] => [x]
  | x :: _ :: r => x :: evens r
/-- What goes up. -/
def upOf (its : List Int) (c : Bool) : List Int := evens (its.drop (its.length % 2 + (if c then 1 else 0)))
/-- A level above h is there. -/
def grow1 (L : List Lvl) (h : Nat) : List Lvl := if h + 1 = L.length then L ++ [Lvl.none] else L
def setItems (L : List Lvl) (h : Nat) (xs : List Int) : List Lvl := L.set h { items := xs, times := (L.getD h Lvl.none).times }
def setTimes (L : List Lvl) (h : Nat) (t : Nat) : List Lvl := L.set h { items := (L.getD h Lvl.none).items, times := t }
/-- Level h thinned by a coin. -/
def thinL (L : List Lvl) (h : Nat) (c : Bool) : List Lvl :=
  let its := (L.getD h Lvl.none).items
  let L1 := grow1 L h
  let L2 := setItems L1 h (its.take (its.length % 2))
  let L3 := setTimes L2 h ((L2.getD h Lvl.none).times + 1)
  setItems L3 (h + 1) (jn (L3.getD (h + 1) Lvl.none).items (upOf its c))

theorem evens_length : ∀ l : List Int, (evens l).length = (l.length + 1) / 2
  | [] => by simp [evens]
  | [x] => by simp [evens]
  | x :: y :: r => by simp only [evens, List.length_cons, evens_length r]; omega
theorem evens_drop {l : List Int} {i : Nat} (h : i < l.length) : evens (l.drop i) = l.getD i 0 :: evens (l.drop (i + 2)) := by
  rw [List.drop_eq_getElem_cons h]
  by_cases h2 : i + 1 < l.length
  · rw [List.drop_eq_getElem_cons h2, evens]; simp [List.getD, h]
  · rw [List.drop_eq_nil_of_le (by omega : l.length ≤ i + 1), List.drop_eq_nil_of_le (by omega : l.length ≤ i + 2)]; simp [evens, List.getD, h]
theorem evens_end {l : List Int} {i : Nat} (h : l.length ≤ i) : evens (l.drop i) = [] := by rw [List.drop_eq_nil_of_le h]; rfl
/-- A step of gathering what goes up. -/
theorem up_step {its xs J : List Int} {i m : Nat} {x : Int} (hm : its.length = m) (hi : i < m) (hx : its.getD i 0 = x) (h : xs ++ evens (its.drop i) = J) : (xs ++ [x]) ++ evens (its.drop (i + 2)) = J := by
  rw [← h, evens_drop (i := i) (by omega), hx]; simp
theorem up_end {its xs J : List Int} {i m : Nat} (hm : its.length = m) (hi : ¬ i < m) (h : xs ++ evens (its.drop i) = J) : xs = J := by
  rw [← h, evens_end (by omega)]; simp
theorem nsum_at {L : List Lvl} {h : Nat} (hh : h < L.length) : (L.getD h Lvl.none).items.length ≤ nsum L := by
  induction L generalizing h with
  | nil => simp at hh
  | cons l L ih =>
    cases h with
    | zero => simp [nsum]
    | succ h => have := ih (h := h) (by simpa using hh); simp only [nsum, List.getD_cons_succ]; omega
theorem setItems_length (L : List Lvl) (h : Nat) (xs : List Int) : (setItems L h xs).length = L.length := by simp [setItems]
theorem setTimes_length (L : List Lvl) (h t : Nat) : (setTimes L h t).length = L.length := by simp [setTimes]
theorem jn_nil_left (B : List Int) : jn [] B = B := by
  induction B with
  | nil => rfl
  | cons x B ih => rw [jn_end, ih]

theorem grow1_at {L : List Lvl} {h j : Nat} (hj : j < L.length) : (grow1 L h).getD j Lvl.none = L.getD j Lvl.none := by
  unfold grow1
  split
  · simp [List.getD, List.getElem?_append, hj]
  · rfl
theorem setItems_times {L : List Lvl} {h j : Nat} {X : List Int} : ((setItems L h X).getD j Lvl.none).times = (L.getD j Lvl.none).times := by
  unfold setItems
  by_cases e : h = j
  · subst e
    by_cases hl : h < L.length <;> simp [List.getD, hl]
  · simp [List.getD, e]
theorem setTimes_items {L : List Lvl} {h j t : Nat} : ((setTimes L h t).getD j Lvl.none).items = (L.getD j Lvl.none).items := by
  unfold setTimes
  by_cases e : h = j
  · subst e
    by_cases hl : h < L.length <;> simp [List.getD, hl]
  · simp [List.getD, e]
theorem setItems_other {L : List Lvl} {h j : Nat} {X : List Int} (e : h ≠ j) : (setItems L h X).getD j Lvl.none = L.getD j Lvl.none := by
  simp [setItems, List.getD, e]

theorem grow1_items {L : List Lvl} {h j b : Nat} (hb : nsum L ≤ b) : ((grow1 L h).getD j Lvl.none).items.length ≤ b := by
  by_cases hj : j < L.length
  · rw [grow1_at hj]; exact Nat.le_trans (nsum_at hj) hb
  · have : (grow1 L h).getD j Lvl.none = Lvl.none := by
      unfold grow1
      split
      · by_cases e : j = L.length
        · subst e; simp [List.getD]
        · simp [List.getD, List.getElem?_append, hj]; rw [List.getElem?_eq_none (by simp; omega)]; rfl
      · simp [List.getD, hj]
    rw [this]; simp [Lvl.none]

/-- The error and the spread. -/
def esum : List Lvl → Nat
  | [] => 0
  | l :: L => l.times + 2 * esum L
def ssum : List Lvl → Nat
  | [] => 0
  | l :: L => l.times + 4 * ssum L
def timesOf (L : List Lvl) : List Int := L.map fun l => (l.times : Int)

theorem nsum_le (L : List Lvl) : nsum L ≤ wsum L := by
  induction L with
  | nil => simp [nsum, wsum]
  | cons l L ih => simp only [nsum, wsum]; omega

theorem lv_drop (L : List Lvl) (j : Nat) (h : j < L.length) : L.drop j = L.getD j Lvl.none :: L.drop (j + 1) := by
  rw [List.drop_eq_getElem_cons h]; simp [List.getD, h]

theorem wsum_drop (L : List Lvl) (j : Nat) (h : j < L.length) : wsum (L.drop j) = (L.getD j Lvl.none).items.length + 2 * wsum (L.drop (j + 1)) := by
  rw [lv_drop L j h, wsum]
theorem nsum_drop (L : List Lvl) (j : Nat) (h : j < L.length) : nsum (L.drop j) = (L.getD j Lvl.none).items.length + nsum (L.drop (j + 1)) := by
  rw [lv_drop L j h, nsum]
theorem wsum_end (L : List Lvl) (j : Nat) (h : L.length ≤ j) : wsum (L.drop j) = 0 := by rw [List.drop_eq_nil_of_le h, wsum]
theorem nsum_end (L : List Lvl) (j : Nat) (h : L.length ≤ j) : nsum (L.drop j) = 0 := by rw [List.drop_eq_nil_of_le h, nsum]

theorem estep {L : List Lvl} {j c p : Nat} (h : j < L.length) (hc : c + p * esum (L.drop j) = esum L) : (c + p * (L.getD j Lvl.none).times) + (p * 2) * esum (L.drop (j + 1)) = esum L := by
  rw [lv_drop L j h, esum, Nat.mul_add] at hc
  rw [← hc, Nat.mul_assoc]; omega
theorem sstep {L : List Lvl} {j c p : Nat} (h : j < L.length) (hc : c + p * p * ssum (L.drop j) = ssum L) : (c + p * p * (L.getD j Lvl.none).times) + ((p * 2) * (p * 2)) * ssum (L.drop (j + 1)) = ssum L := by
  rw [lv_drop L j h, ssum, Nat.mul_add] at hc
  have e : p * 2 * (p * 2) = p * p * 4 := by rw [Nat.mul_comm p 2, Nat.mul_mul_mul_comm, Nat.mul_comm]
  rw [← hc, e, Nat.mul_assoc (p * p) 4]; omega
theorem timesOf_step {L : List Lvl} {j : Nat} (h : j < L.length) : timesOf (L.take (j + 1)) = timesOf (L.take j) ++ [((L.getD j Lvl.none).times : Int)] := by
  rw [timesOf, timesOf, List.take_succ_eq_append_getElem h, List.map_append, List.map_singleton]
  congr 2
  simp [List.getD, h]
theorem esum_end (L : List Lvl) (j : Nat) (h : L.length ≤ j) : esum (L.drop j) = 0 := by rw [List.drop_eq_nil_of_le h, esum]
theorem ssum_end (L : List Lvl) (j : Nat) (h : L.length ≤ j) : ssum (L.drop j) = 0 := by rw [List.drop_eq_nil_of_le h, ssum]
theorem esum_le (L : List Lvl) : esum L ≤ ssum L := by
  induction L with
  | nil => simp [esum, ssum]
  | cons l L ih => simp only [esum, ssum]; omega
/-- A step of counting. -/
theorem wstep {L : List Lvl} {j c p : Nat} (h : j < L.length) (hc : c + p * wsum (L.drop j) = wsum L) : (c + p * (L.getD j Lvl.none).items.length) + (p * 2) * wsum (L.drop (j + 1)) = wsum L := by
  rw [wsum_drop L j h, Nat.mul_add] at hc
  rw [← hc, Nat.mul_assoc]; omega

theorem capFrom_le (k t3 t2 : Nat) : ∀ f c, capFrom k t3 t2 f c ≤ max c k := by
  intro f
  induction f with
  | zero => intro c; simp only [capFrom]; omega
  | succ f ih =>
    intro c
    simp only [capFrom]
    split
    · have := ih (c + 1); omega
    · omega
theorem capFrom_ge (k t3 t2 : Nat) : ∀ f c, c ≤ capFrom k t3 t2 f c := by
  intro f
  induction f with
  | zero => intro c; simp only [capFrom]; omega
  | succ f ih =>
    intro c
    simp only [capFrom]
    split
    · have := ih (c + 1); omega
    · omega
theorem capOf_le (k d : Nat) (hk : 2 ≤ k) : capOf k d ≤ k := by
  have := capFrom_le k (3 ^ d) (2 ^ d) k 2
  unfold capOf; omega
theorem capOf_ge (k d : Nat) : 2 ≤ capOf k d := capFrom_ge _ _ _ _ _
theorem capOf_bd (k d : Nat) (hk : k ≤ 64) : capOf k d ≤ 64 := by
  have := capFrom_le k (3 ^ d) (2 ^ d) k 2
  unfold capOf; omega
theorem capSum_bd (k n : Nat) (hk : k ≤ 64) : capSum k n ≤ 64 * n := by
  induction n with
  | zero => simp [capSum]
  | succ n ih => have := capOf_bd k n hk; simp only [capSum]; omega

end Go.Proofs.YtklicjbpjigfdabGreat
