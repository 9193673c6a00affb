/- DERIVED. Plain mathematics of texts: which are a sketch's; a text with one byte changed, one missing, one more is none. -/
import Derived.Test.YtklicjbpjigfdabQ0
import Derived.Test.YtklicjbpjigfdabProg
import Derived.WalkKit
import Derived.WalkSpells
import Derived.WalkLawsBesides
namespace Go.Proofs.Ytklicjbpjigfdab

/-- Has enough gone up for each level to have been thinned so often? -/
def timesB (k n : Nat) : Nat → List Lvl → Bool
  | _, [] => true
  | h, l :: L => decide (l.times * 2 ^ h * capOf k (n - 1 - h) ≤ 2 ^ (h + 1) * wsum L) && timesB k n (h + 1) L
def risesB : List Int → Bool
  | [] => true
  | [_] => true
  | x :: y :: r => decide (x ≤ y) && risesB (y :: r)
def lvB (lo hi : Int) (l : Lvl) : Bool := l.items.all (fun x => decide (lo ≤ x) && decide (x ≤ hi)) && risesB l.items
def hasIt (x : Int) (L : List Lvl) : Bool := L.any fun l => l.items.any fun y => y == x
def thinnedB (L : List Lvl) : Bool := L.any fun l => decide (0 < l.times)
def shapeB (s : Sk) : Bool := decide (2 ≤ s.k ∧ s.k ≤ 64 ∧ 1 ≤ s.lv.length ∧ s.lv.length ≤ 29 ∧ (1 < s.lv.length → 0 < (s.lv.getD (s.lv.length - 1) Lvl.none).items.length) ∧ nsum s.lv ≤ capSum s.k s.lv.length ∧ wsum s.lv ≤ 268435456)
def endsOK (s : Sk) : Bool := decide (nsum s.lv = 0) || thinnedB s.lv || (hasIt s.lo s.lv && hasIt s.hi s.lv)
/-- Is it as a sketch must be? -/
def soundB (s : Sk) : Bool := shapeB s && (timesB s.k s.lv.length 0 s.lv && (s.lv.all (lvB s.lo s.hi) && endsOK s))
/-- Is it a sketch's text? -/
def isText (t : List Nat) : Bool := soundB (toldS t) && decide (writeB (toldS t) = t)

theorem ckA_sum : ∀ (b : List Nat) (a : Nat), a < 256 → ckA b a = (a + b.sum) % 256
  | [], a, h => by simp [ckA]; omega
  | x :: b, a, h => by
    rw [ckA, ckA_sum b _ (Nat.mod_lt _ (by decide)), List.sum_cons]
    omega
theorem ckA_lt (b : List Nat) : ckA b 0 < 256 := by rw [ckA_sum _ _ (by decide)]; omega
theorem ckB_lt : ∀ (b : List Nat) (a c : Nat), c < 256 → ckB b a c < 256
  | [], a, c, h => h
  | x :: b, a, c, h => by rw [ckB]; exact ckB_lt b _ _ (Nat.mod_lt _ (by decide))
theorem writeB_eq (s : Sk) : writeB s = bodyB s ++ [ckA (bodyB s) 0, ckB (bodyB s) 0 0] := by
  have h1 := ckA_lt (bodyB s)
  have h2 := ckB_lt (bodyB s) 0 0 (by decide)
  simp [writeB, leB, Nat.mod_eq_of_lt h1, Nat.mod_eq_of_lt h2]
theorem hdrB_lt : ∀ (L : List Lvl), ∀ x ∈ hdrB L, x < 256
  | [], x, h => by simp [hdrB] at h
  | l :: L, x, h => by
    simp only [hdrB, List.mem_append] at h
    rcases h with h | h | h
    · exact leB_lt _ _ x h
    · exact leB_lt _ _ x h
    · exact hdrB_lt L x h
theorem numsB_lt : ∀ (l : List Int), ∀ x ∈ numsB l, x < 256
  | [], x, h => by simp [numsB] at h
  | y :: l, x, h => by
    simp only [numsB, List.mem_append] at h
    rcases h with h | h
    · exact leB_lt _ _ x h
    · exact numsB_lt l x h
theorem itemsB_lt : ∀ (L : List Lvl), ∀ x ∈ itemsB L, x < 256
  | [], x, h => by simp [itemsB] at h
  | l :: L, x, h => by
    simp only [itemsB, List.mem_append] at h
    rcases h with h | h
    · exact numsB_lt _ x h
    · exact itemsB_lt L x h
theorem bodyB_lt (s : Sk) : ∀ x ∈ bodyB s, x < 256 := by
  intro x h
  simp only [bodyB, List.mem_append] at h
  rcases h with h | h | h | h | h | h
  · simp at h; omega
  · exact leB_lt _ _ x h
  · exact leB_lt _ _ x h
  · exact hdrB_lt _ x h
  · unfold endsB at h
    split at h
    · simp at h
    · rw [List.mem_append] at h
      rcases h with h | h <;> exact leB_lt _ _ x h
  · exact itemsB_lt _ x h
theorem writeB_lt (s : Sk) : ∀ x ∈ writeB s, x < 256 := by
  intro x h
  simp only [writeB, List.mem_append] at h
  rcases h with h | h | h
  · exact bodyB_lt s x h
  · exact leB_lt _ _ x h
  · exact leB_lt _ _ x h
theorem writeB_length (s : Sk) : (writeB s).length = (bodyB s).length + 2 := by simp [writeB_eq]
theorem bodyB_length (s : Sk) : (bodyB s).length = 4 + 5 * s.lv.length + (if wsum s.lv = 0 then 0 else 16) + 8 * nsum s.lv := by
  simp only [bodyB, List.length_append, leB_length, hdrB_length, itemsB_length, endsB]
  split <;> simp [leB_length] <;> omega

/-- A text of a sketch that begins another's is that one. -/
theorem write_prefix {s s' : Sk} (h : SkFits s) (h' : SkFits s') {r : List Nat} (e : writeB s' ++ r = writeB s) : r = [] := by
  have e1 : toldS (writeB s' ++ r) = s' := by rw [writeB, List.append_assoc]; exact told_body h' _
  rw [e, told_write h] at e1
  subst e1
  have := congrArg List.length e
  rw [List.length_append] at this
  exact List.eq_nil_of_length_eq_zero (by omega)

theorem sum_set : ∀ (b : List Nat) (i y : Nat), i < b.length → (b.set i y).sum + b.getD i 0 = b.sum + y
  | [], i, y, h => by simp at h
  | x :: b, 0, y, h => by simp [List.sum_cons]; omega
  | x :: b, i + 1, y, h => by
    have := sum_set b i y (by simpa using h)
    simp only [List.set_cons_succ, List.sum_cons, List.getD_cons_succ]; omega

/-- A text of a sketch with one byte changed is no sketch's. -/
theorem write_changed {s s' : Sk} {i y : Nat} (hi : i < (writeB s).length) (hy : y < 256) (hne : y ≠ (writeB s).getD i 0) (e : writeB s' = (writeB s).set i y) : False := by
  have hl : (bodyB s').length = (bodyB s).length := by
    have := congrArg List.length e
    rw [List.length_set, writeB_length, writeB_length] at this
    omega
  by_cases hb : i < (bodyB s).length
  · have e2 : (writeB s).set i y = (bodyB s).set i y ++ [ckA (bodyB s) 0, ckB (bodyB s) 0 0] := by
      rw [writeB_eq, List.set_append_left _ _ hb]
    rw [e2, writeB_eq] at e
    obtain ⟨h1, h2⟩ := List.append_inj e (by rw [List.length_set]; exact hl)
    have h3 : ckA (bodyB s') 0 = ckA (bodyB s) 0 := by simpa using (List.cons_eq_cons.1 h2).1
    rw [h1, ckA_sum _ _ (by decide), ckA_sum _ _ (by decide)] at h3
    have h4 := sum_set (bodyB s) i y hb
    have h5 : (bodyB s).getD i 0 < 256 := by
      rw [List.getD_eq_getElem?_getD, List.getElem?_eq_getElem hb]
      exact bodyB_lt s _ (List.getElem_mem hb)
    have h6 : (writeB s).getD i 0 = (bodyB s).getD i 0 := by
      rw [writeB_eq, List.getD_eq_getElem?_getD, List.getD_eq_getElem?_getD, List.getElem?_append_left hb]
    rw [h6] at hne
    omega
  · have e2 : (writeB s).set i y = bodyB s ++ ([ckA (bodyB s) 0, ckB (bodyB s) 0 0].set (i - (bodyB s).length) y) := by
      rw [writeB_eq, List.set_append_right _ _ (by omega)]
    rw [e2, writeB_eq] at e
    obtain ⟨h1, h2⟩ := List.append_inj e hl
    rw [h1] at h2
    have h3 : [ckA (bodyB s) 0, ckB (bodyB s) 0 0].getD (i - (bodyB s).length) 0 = y := by
      rw [h2, List.getD_eq_getElem?_getD, List.getElem?_set_self (by rw [writeB_length] at hi; simp; omega)]; rfl
    apply hne
    rw [writeB_eq, List.getD_eq_getElem?_getD, List.getElem?_append_right (by omega), ← List.getD_eq_getElem?_getD, h3]

/-- The three of them, as texts that are read. -/
theorem isText_fits {t : List Nat} (hb : ∀ x ∈ t, x < 256) (h : isText t = true) : SkFits (toldS t) ∧ writeB (toldS t) = t := by
  simp only [isText, Bool.and_eq_true, decide_eq_true_eq] at h
  exact ⟨toldS_fits hb, h.2⟩
theorem not_changed {s : Sk} {i y : Nat} (hi : i < (writeB s).length) (hy : y < 256) (hne : y ≠ (writeB s).getD i 0) : isText ((writeB s).set i y) = false := by
  cases h : isText ((writeB s).set i y) with
  | false => rfl
  | true =>
    simp only [isText, Bool.and_eq_true, decide_eq_true_eq] at h
    exact (write_changed hi hy hne h.2).elim
theorem not_cut {s : Sk} (h : SkFits s) : isText ((writeB s).take ((writeB s).length - 1)) = false := by
  cases h' : isText ((writeB s).take ((writeB s).length - 1)) with
  | false => rfl
  | true =>
    obtain ⟨h1, h2⟩ := isText_fits (fun x hx => writeB_lt s x (mem_take hx)) h'
    have hl := writeB_length s
    have := write_prefix h h1 (r := (writeB s).drop ((writeB s).length - 1)) (by rw [h2, List.take_append_drop])
    have := congrArg List.length this
    simp at this
    omega
theorem not_more {s : Sk} (h : SkFits s) {y : Nat} (hy : y < 256) : isText (writeB s ++ [y]) = false := by
  cases h' : isText (writeB s ++ [y]) with
  | false => rfl
  | true =>
    obtain ⟨h1, h2⟩ := isText_fits (fun x hx => by
      rw [List.mem_append] at hx
      rcases hx with hx | hx
      · exact writeB_lt s x hx
      · simp at hx; omega) h'
    have e : toldS (writeB s ++ [y]) = s := by rw [writeB, List.append_assoc]; exact told_body h _
    rw [e] at h2
    have := congrArg List.length h2
    simp at this
theorem is_text {s : Sk} (h : SkFits s) (hs : soundB s = true) : isText (writeB s) = true := by
  simp only [isText, told_write h, hs, decide_true, Bool.and_self]

end Go.Proofs.Ytklicjbpjigfdab

/- DERIVED. Lists in memory: 'Ints w v xs': the slice value v holds the numbers xs at the head of a row of its own (or is nil, and xs is empty); what it gives, and how it is carried from one world to a later one. -/
namespace Go.Proofs.Ytklicjbpjigfdab
open Go.RowKit

theorem Try.infoInt : (Try.prog.info? 3).map (fun i => (i.zero, i.size, i.bytes)) = some (some (.int .i64 0), 1, 8) := by kernel_rfl
theorem Try.infoBool : (Try.prog.info? 4).map (fun i => (i.zero, i.size, i.bytes)) = some (some (.bool false), 1, 1) := by kernel_rfl

theorem ret_int {k : IntKind} {a b : Int} (h : a = b) : Ending.returned (.int k a) = .returned (.int k b) := by rw [h]

theorem hid {p : Prop} (h : p) : Hid p := h

/-- The cells of a list of numbers. -/
def ints (xs : List Int) : List Value := xs.map (Value.int .i64)
theorem ints_length (xs : List Int) : (ints xs).length = xs.length := by simp [ints]
theorem ints_append (xs ys : List Int) : ints (xs ++ ys) = ints xs ++ ints ys := by simp [ints]

/-- The slice value v holds the numbers xs. -/
def Ints (w : World) (v : Value) (xs : List Int) : Prop := w.ownsRow 0 3 1 v xs.length (ints xs)

/-- Rows do not mind where they begin. -/
theorem ownsRow_base {w : World} {b b' : Nat} {e : TypeId} {size : Nat} {v : Value} {n : Nat} {xs : List Value} (h : w.ownsRow b e size v n xs) (hb : b' ≤ b) : w.ownsRow b' e size v n xs := by
  refine ⟨h.1, ?_⟩
  rcases h.2 with h2 | ⟨g, cap, cur, hv, hg, r⟩
  · exact Or.inl h2
  · exact Or.inr ⟨g, cap, cur, hv, Nat.le_trans hb hg, r⟩

/-- Whoever keeps the row's block keeps the row. -/
theorem ownsRow_block {w w' : World} {b : Nat} {e : TypeId} {size : Nat} {v : Value} {n : Nat} {xs : List Value} (h : w.ownsRow b e size v n xs) (hb : ∀ g, v.ownBlock = some g → w'.heap[g]? = w.heap[g]?) : w'.ownsRow b e size v n xs := by
  refine ⟨h.1, ?_⟩
  rcases h.2 with h2 | ⟨g, cap, cur, hv, hg, hh, r⟩
  · exact Or.inl h2
  · exact Or.inr ⟨g, cap, cur, hv, hg, by rw [hb g (by rw [hv]; rfl)]; exact hh, r⟩

theorem ownsRow_blk {w : World} {b : Nat} {e : TypeId} {size : Nat} {v : Value} {n : Nat} {xs : List Value} (h : w.ownsRow b e size v n xs) {g : Nat} (hg : v.ownBlock = some g) : ∃ c, w.heap[g]? = some (.cells c e (0, 0)) := by
  rcases h.2 with ⟨e', _⟩ | ⟨g', cap, cur, e', _, hh, _⟩
  · rw [e'] at hg; simp [Value.ownBlock] at hg
  · rw [e'] at hg; simp [Value.ownBlock] at hg; subst hg; exact ⟨_, hh⟩
theorem ownsRow_lt {w : World} {b : Nat} {e : TypeId} {size : Nat} {v : Value} {n : Nat} {xs : List Value} (h : w.ownsRow b e size v n xs) {g : Nat} (hg : v.ownBlock = some g) : g < w.heap.size := (h.lt g hg).2

/-- A row that lies below B is kept by all that keeps what is below B. -/
theorem ownsRow_below {w w' : World} {b B : Nat} {e : TypeId} {size : Nat} {v : Value} {n : Nat} {xs : List Value} (h : w.ownsRow b e size v n xs) (hB : Below B w w') (hlt : ∀ g, v.ownBlock = some g → g < B) : w'.ownsRow b e size v n xs :=
  ownsRow_block h (fun g hg => hB.block g (hlt g hg))

theorem Ints.below {w w' : World} {v : Value} {xs : List Int} (h : Ints w v xs) (hB : Below w.heap.size w w') : Ints w' v xs :=
  ownsRow_below h hB (fun _ hg => ownsRow_lt h hg)

theorem Ints.block {w w' : World} {v : Value} {xs : List Int} (h : Ints w v xs) (hb : ∀ g, v.ownBlock = some g → w'.heap[g]? = w.heap[g]?) : Ints w' v xs := ownsRow_block h hb

theorem Ints.nil (w : World) : Ints w (.slice none 0 0) [] := World.ownsRow_nil _ _ _ _

theorem Ints.of {w : World} {b : Nat} {v : Value} {n : Nat} {xs : List Int} (h : w.ownsRow b 3 1 v n (ints xs)) : Ints w v xs := by
  have e : n = xs.length := by have := h.1; rw [ints_length] at this; omega
  subst e
  exact ownsRow_base h (Nat.zero_le _)

/-- The cells of a row, by their places. -/
theorem ownsRow_cell {w : World} {b : Nat} {e : TypeId} {size : Nat} {n cap g off : Nat} {xs : List Value} (h : w.ownsRow b e size (.slice (some ⟨g, off, none⟩) n cap) n xs) {j : Nat} {u : Value} (hj : xs[j]? = some u) : w.cell? ⟨g, j, none⟩ = some u := by
  have := h.cells (g := g) rfl j u hj
  rwa [Addr.add_lit, Nat.zero_add] at this

/-- What a list of numbers in memory is. -/
theorem Ints.form {w : World} {v : Value} {xs : List Int} (h : Ints w v xs) :
    ∃ ao cap, v = .slice ao xs.length cap ∧ xs.length ≤ cap ∧ cap ≤ maxLen ∧ (ao = none → xs = [] ∧ cap = 0) ∧
      ∀ a, ao = some a → ∃ g, a = ⟨g, 0, none⟩ ∧ g < w.heap.size ∧ ∀ t, t < xs.length → w.cell? ⟨g, t, none⟩ = some (.int .i64 (xs.getD t 0)) := by
  have h' := h
  rcases h.2 with ⟨rfl, hn⟩ | ⟨g, cap, cur, rfl, hg, hh, hnc, hcm, hcs, ht⟩
  · have : xs = [] := List.eq_nil_of_length_eq_zero hn
    subst this
    exact ⟨none, 0, rfl, Nat.le_refl _, Nat.zero_le _, (fun _ => ⟨rfl, rfl⟩), fun a ha => by cases ha⟩
  · refine ⟨some ⟨g, 0, none⟩, cap, rfl, hnc, hcm, (fun h => by cases h), fun a ha => ?_⟩
    cases ha
    refine ⟨g, rfl, ownsRow_lt h' rfl, fun t ht => ownsRow_cell h' ?_⟩
    simp [ints, List.getD, ht]

/-- The head of a list. -/
theorem Ints.take {w : World} {g n c : Nat} {xs : List Int} (h : Ints w (.slice (some ⟨g, 0, none⟩) n c) xs) {k : Nat} (hk : k ≤ n) (hn : n = xs.length) : Ints w (.slice (some ⟨g, 0, none⟩) k c) (xs.take k) := by
  rcases h.2 with ⟨e, _⟩ | ⟨g2, c2, cur, e, hb, hh, hnc, hcm, hcs, ht⟩
  · cases e
  · cases e
    refine ⟨by simp [ints], .inr ⟨g, c, cur, by rw [List.length_take, Nat.min_eq_left (by omega)], hb, hh, ?_, hcm, hcs, ?_⟩⟩
    · rw [List.length_take, Nat.min_eq_left (by omega)]; omega
    · rw [List.length_take, Nat.min_eq_left (by omega), Nat.mul_one]
      have := congrArg (List.take k) ht
      rw [List.take_take, Nat.mul_one, Nat.min_eq_left (by omega)] at this
      rw [this]
      simp [ints]

/-- The one new cell of 'append(out, x)'. -/
theorem one_new (w : World) (v : Value) (e : TypeId) : ∀ j u, [v][j]? = some u → (w.alloc (.cells #[v] e)).cell? ((⟨w.heap.size, 0, none⟩ : Addr).add j) = some u := by
  intro j u hu
  match j, hu with
  | 0, hu => simp at hu; subst hu; simp [Addr.add]
theorem one_new' {w : World} {H : Nat} (hH : w.heap.size = H) (v : Value) (e : TypeId) : ∀ j u, [v][j]? = some u → (w.alloc (.cells #[v] e)).cell? ((⟨H, 0, none⟩ : Addr).add j) = some u := by
  subst hH; exact one_new w v e
theorem two_new (w : World) (v u' : Value) (e : TypeId) : ∀ j u, [v, u'][j]? = some u → (w.alloc (.cells #[v, u'] e)).cell? ((⟨w.heap.size, 0, none⟩ : Addr).add j) = some u := by
  intro j u hu
  match j, hu with
  | 0, hu => simp at hu; subst hu; simp [Addr.add]
  | 1, hu => simp at hu; subst hu; simp [Addr.add]
theorem one_cell (k : IntKind) (x : Int) : ∀ u ∈ [Value.int k x], u.oneCell' = true := by
  intro u hu; simp at hu; subst hu; rfl
theorem one_bool (x : Bool) : ∀ u ∈ [Value.bool x], u.oneCell' = true := by
  intro u hu; simp at hu; subst hu; rfl
theorem ints_snoc (xs : List Int) (x : Int) : ints xs ++ [Value.int .i64 x] = ints (xs ++ [x]) := by simp [ints]
theorem ints_one (xs : List Int) : ∀ u ∈ ints xs, u.oneCell' = true := ints_oneCell _ _

/-- A box of four cells is still there behind whatever keeps what was there. -/
theorem box4 {w w1 : World} {a b c d : Value} {e : TypeId} (hb : Below (w.alloc (.cells #[a, b, c, d] e)).heap.size (w.alloc (.cells #[a, b, c, d] e)) w1) :
    w1.cell? ⟨w.heap.size, 0, none⟩ = some a ∧ w1.cell? ⟨w.heap.size, 1, none⟩ = some b ∧ w1.cell? ⟨w.heap.size, 2, none⟩ = some c ∧ w1.cell? ⟨w.heap.size, 3, none⟩ = some d := by
  refine ⟨?_, ?_, ?_, ?_⟩ <;> (refine (hb.cell (by simp)).trans ?_; simp)

/-- A block of four cells, cell by cell. -/
theorem blk4 {w : World} {r : Nat} {a b c d : Value} {e : TypeId} (h : w.heap[r]? = some (.cells #[a, b, c, d] e (0, 0))) :
    w.cell? ⟨r, 0, none⟩ = some a ∧ w.cell? ⟨r, 1, none⟩ = some b ∧ w.cell? ⟨r, 2, none⟩ = some c ∧ w.cell? ⟨r, 3, none⟩ = some d ∧ (∀ o, w.frozen? ⟨r, o, none⟩ = false) := by
  refine ⟨?_, ?_, ?_, ?_, fun o => ?_⟩ <;> simp [World.cell?, World.frozen?, h]
theorem blk2 {w : World} {r : Nat} {a b : Value} {e : TypeId} (h : w.heap[r]? = some (.cells #[a, b] e (0, 0))) :
    w.cell? ⟨r, 0, none⟩ = some a ∧ w.cell? ⟨r, 1, none⟩ = some b ∧ (∀ o, w.frozen? ⟨r, o, none⟩ = false) := by
  refine ⟨?_, ?_, fun o => ?_⟩ <;> simp [World.cell?, World.frozen?, h]
theorem blk3 {w : World} {r : Nat} {a b c : Value} {e : TypeId} (h : w.heap[r]? = some (.cells #[a, b, c] e (0, 0))) :
    w.cell? ⟨r, 0, none⟩ = some a ∧ w.cell? ⟨r, 1, none⟩ = some b ∧ w.cell? ⟨r, 2, none⟩ = some c ∧ (∀ o, w.frozen? ⟨r, o, none⟩ = false) := by
  refine ⟨?_, ?_, ?_, fun o => ?_⟩ <;> simp [World.cell?, World.frozen?, h]
/-- A new block is still there behind a growth of another row. -/
theorem grown_new {w w1 : World} {o : Obj} {row : Option Nat} (h : (w.alloc o).grownBy w1 row) (hr : some w.heap.size ≠ row) : w1.heap[w.heap.size]? = some o := by
  rw [h.block w.heap.size (by simp) hr]
  exact heap_alloc_new w o
theorem below_new {w w1 : World} {o : Obj} {B : Nat} (h : Below B (w.alloc o) w1) (hB : w.heap.size < B) : w1.heap[w.heap.size]? = some o := by
  rw [h.block w.heap.size hB]
  exact heap_alloc_new w o

/-- Four stores into block r leave the other blocks. -/
theorem set4_other {w : World} {r g : Nat} (a b c d : Value) (h : g ≠ r) : ((((w.setCell ⟨r, 0, none⟩ a).setCell ⟨r, 1, none⟩ b).setCell ⟨r, 2, none⟩ c).setCell ⟨r, 3, none⟩ d).heap[g]? = w.heap[g]? := by
  rw [Below.heap_setCell _ _ _ _ h, Below.heap_setCell _ _ _ _ h, Below.heap_setCell _ _ _ _ h, Below.heap_setCell _ _ _ _ h]
theorem below_set4 {B r : Nat} {w0 w : World} (h : Below B w0 w) (hr : B ≤ r) (a b c d : Value) : Below B w0 ((((w.setCell ⟨r, 0, none⟩ a).setCell ⟨r, 1, none⟩ b).setCell ⟨r, 2, none⟩ c).setCell ⟨r, 3, none⟩ d) :=
  (((h.setCell hr a).setCell hr b).setCell hr c).setCell hr d

/-- The first of two new blocks. -/
theorem grown_new2 {w w1 : World} {o o2 : Obj} {row : Option Nat} (h : ((w.alloc o).alloc o2).grownBy w1 row) (hr : some w.heap.size ≠ row) : w1.heap[w.heap.size]? = some o := by
  rw [h.block w.heap.size (by simp; omega) hr, Below.heap_alloc _ _ _ (by simp)]
  exact heap_alloc_new w o
theorem grown_new2' {w w1 : World} {o o2 : Obj} {row : Option Nat} (h : ((w.alloc o).alloc o2).grownBy w1 row) (hr : some (w.heap.size + 1) ≠ row) : w1.heap[w.heap.size + 1]? = some o2 := by
  have e : (w.alloc o).heap.size = w.heap.size + 1 := by simp
  rw [← e] at hr ⊢
  exact grown_new h hr

theorem cell_set_other {w : World} {b g i j : Nat} {v : Value} (h : b ≠ g) : (w.setCell ⟨g, i, none⟩ v).cell? ⟨b, j, none⟩ = w.cell? ⟨b, j, none⟩ := World.cell?_of_block (Below.heap_setCell _ _ _ _ h)
theorem undrew {B : Nat} {w w' : World} (h : Below B w.drew w') : Below B w w' := ⟨h.os, h.tape, h.output, h.size, h.block⟩
theorem setCell_size (w : World) (a : Addr) (v : Value) : (w.setCell a v).heap.size = w.heap.size := by simp [World.setCell]
/-- One number in a new block. -/
theorem Ints.single (w : World) (x : Int) : Ints (w.alloc (.cells #[.int .i64 x] 3)) (.slice (some ⟨w.heap.size, 0, none⟩) 1 1) [x] :=
  ⟨rfl, .inr ⟨w.heap.size, 1, #[.int .i64 x], rfl, Nat.zero_le _, heap_alloc_new _ _, by simp, by unfold maxLen; omega, rfl, rfl⟩⟩
theorem Ints.alloc {w : World} {v : Value} {xs : List Int} (h : Ints w v xs) (o : Obj) : Ints (w.alloc o) v xs := h.below ((Below.refl _ _).alloc (Nat.le_refl _) _)
theorem Ints.drew {w : World} {v : Value} {xs : List Int} (h : Ints w v xs) : Ints w.drew v xs := h
/-- Behind a new block, a draw and a callee that keeps what was there. -/
theorem below_alloc_drew {w w' : World} {o : Obj} (h : Below (w.alloc o).drew.heap.size (w.alloc o).drew w') : Below w.heap.size w w' :=
  ((Below.refl _ _).alloc (Nat.le_refl _) o).trans ((undrew h).mono (by simp [World.drew]))
/-- The slice value v holds these Booleans. -/
def Bools (w : World) (v : Value) (xs : List Bool) : Prop := w.ownsRow 0 4 1 v xs.length (xs.map Value.bool)
theorem Bools.form {w : World} {v : Value} {xs : List Bool} (h : Bools w v xs) :
    ∃ ao cap, v = .slice ao xs.length cap ∧ xs.length ≤ cap ∧ cap ≤ maxLen ∧ (ao = none → xs = [] ∧ cap = 0) ∧
      ∀ a, ao = some a → ∃ g, a = ⟨g, 0, none⟩ ∧ g < w.heap.size ∧ ∀ t, t < xs.length → w.cell? ⟨g, t, none⟩ = some (.bool (xs.getD t false)) := by
  have h' := h
  rcases h.2 with ⟨rfl, hn⟩ | ⟨g, cap, cur, rfl, hg, hh, hnc, hcm, hcs, ht⟩
  · have : xs = [] := List.eq_nil_of_length_eq_zero hn
    subst this
    exact ⟨none, 0, rfl, Nat.le_refl _, Nat.zero_le _, (fun _ => ⟨rfl, rfl⟩), fun a ha => by cases ha⟩
  · refine ⟨some ⟨g, 0, none⟩, cap, rfl, hnc, hcm, (fun h => by cases h), fun a ha => ?_⟩
    cases ha
    refine ⟨g, rfl, ownsRow_lt h' rfl, fun t ht => ownsRow_cell h' ?_⟩
    simp [List.getD, ht]
theorem Bools.below {w w' : World} {v : Value} {xs : List Bool} (h : Bools w v xs) (hB : Below w.heap.size w w') : Bools w' v xs :=
  ownsRow_below h hB (fun _ hg => ownsRow_lt h hg)
theorem lt_of_blk' {w : World} {b : Nat} {o : Obj} (h : w.heap[b]? = some o) : b < w.heap.size := (Array.getElem?_eq_some_iff.1 h).1
/-- The block of a sketch's variable. -/
abbrev skBlk (k g n cap : Nat) (lo hi : Int) : Obj := .cells #[.int .i64 (k : Int), .slice (some ⟨g, 0, none⟩) n cap, .int .i64 lo, .int .i64 hi] 77 (0, 0)
theorem grow_blk2 {b g1 : Nat} {o o2 o' : Obj} {wr w1 : World} (hb : wr.heap[b]? = some o') (hgrow : ((wr.alloc o).alloc o2).grownBy w1 (some g1)) (hne : b ≠ g1) : w1.heap[b]? = some o' := by
  have := lt_of_blk' hb
  rw [hgrow.block b (by simp; omega) (by simpa using hne), Below.heap_alloc _ _ _ (by simp; omega), Below.heap_alloc _ _ _ this]
  exact hb
/-- A block behind a store into it. -/
theorem blk_set {w : World} {b i : Nat} {cur : Array Value} {e : TypeId} {fr : Nat × Nat} (v : Value) (h : w.heap[b]? = some (.cells cur e fr)) : (w.setCell ⟨b, i, none⟩ v).heap[b]? = some (.cells (cur.setIfInBounds i v) e fr) := by
  simp [World.setCell, Array.getElem?_modify, h]

end Go.Proofs.Ytklicjbpjigfdab

/- DERIVED. Levels in memory: 'LvAt F w g cap vs L': block g holds the levels L (their lists at the values vs). -/
namespace Go.Proofs.Ytklicjbpjigfdab
open Go.RowKit
variable {F : Nat → Prop}

theorem Try.infoLevel : (Try.prog.info? 125).map (fun i => (i.zero, i.size, i.bytes)) = some (some (.agg #[.slice none 0 0, .int .i64 0]), 2, 32) := by kernel_rfl

/-- The cells of levels. -/
def lvCells : List Value → List Lvl → List Value
  | v :: vs, l :: L => v :: .int .i64 (l.times : Int) :: lvCells vs L
  | _, _ => []

theorem lvCells_length : ∀ (vs : List Value) (L : List Lvl), vs.length = L.length → (lvCells vs L).length = L.length * 2 := by
  intro vs
  induction vs with
  | nil => intro L h; cases L with | nil => simp [lvCells] | cons => simp at h
  | cons v vs ih =>
    intro L h
    cases L with
    | nil => simp at h
    | cons l L => simp only [lvCells, List.length_cons, ih L (by simpa using h)]; omega

theorem lvCells_at0 : ∀ (vs : List Value) (L : List Lvl) (j : Nat), vs.length = L.length → j < L.length → (lvCells vs L)[j * 2]? = some (vs.getD j undef) := by
  intro vs
  induction vs with
  | nil => intro L j h hj; simp at h; omega
  | cons v vs ih =>
    intro L j h hj
    cases L with
    | nil => simp at hj
    | cons l L =>
      cases j with
      | zero => simp [lvCells]
      | succ j =>
        rw [lvCells, show (j + 1) * 2 = j * 2 + 1 + 1 by omega, List.getElem?_cons_succ, List.getElem?_cons_succ, ih L j (by simpa using h) (by simpa using hj)]
        simp
theorem lvCells_at1 : ∀ (vs : List Value) (L : List Lvl) (j : Nat), vs.length = L.length → j < L.length → (lvCells vs L)[j * 2 + 1]? = some (.int .i64 ((L.getD j Lvl.none).times : Int)) := by
  intro vs
  induction vs with
  | nil => intro L j h hj; simp at h; omega
  | cons v vs ih =>
    intro L j h hj
    cases L with
    | nil => simp at hj
    | cons l L =>
      cases j with
      | zero => simp [lvCells]
      | succ j =>
        rw [lvCells, show (j + 1) * 2 + 1 = (j * 2 + 1) + 1 + 1 by omega, List.getElem?_cons_succ, List.getElem?_cons_succ, ih L j (by simpa using h) (by simpa using hj)]
        simp

theorem lvCells_one : ∀ (vs : List Value) (L : List Lvl), (∀ h, h < L.length → (vs.getD h undef).oneCell' = true) → ∀ u ∈ lvCells vs L, u.oneCell' = true := by
  intro vs
  induction vs with
  | nil => intro L _ u hu; cases L <;> simp [lvCells] at hu
  | cons v vs ih =>
    intro L h u hu
    cases L with
    | nil => simp [lvCells] at hu
    | cons l L =>
      simp only [lvCells, List.mem_cons] at hu
      rcases hu with rfl | rfl | hu
      · have := h 0 (by simp); simpa using this
      · rfl
      · exact ih L (fun j hj => by have := h (j + 1) (by simpa using hj); simpa using this) u hu

/-- Block g holds the levels L; their lists lie in blocks of F. -/
structure LvAt (F : Nat → Prop) (w : World) (g cap : Nat) (vs : List Value) (L : List Lvl) : Prop where
  row : w.ownsRow 0 125 2 (.slice (some ⟨g, 0, none⟩) L.length cap) L.length (lvCells vs L)
  len : vs.length = L.length
  its : ∀ h, h < L.length → Ints w (vs.getD h undef) (L.getD h Lvl.none).items
  fp : ∀ h, h < L.length → ∀ b, (vs.getD h undef).ownBlock = some b → F b

theorem LvAt.lt {w : World} {g cap : Nat} {vs : List Value} {L : List Lvl} (h : LvAt F w g cap vs L) : g < w.heap.size := ownsRow_lt h.row rfl
theorem LvAt.cell0 {w : World} {g cap : Nat} {vs : List Value} {L : List Lvl} (h : LvAt F w g cap vs L) {j : Nat} (hj : j < L.length) : w.cell? ⟨g, j * 2, none⟩ = some (vs.getD j undef) :=
  ownsRow_cell h.row (lvCells_at0 vs L j h.len hj)
theorem LvAt.cell1 {w : World} {g cap : Nat} {vs : List Value} {L : List Lvl} (h : LvAt F w g cap vs L) {j : Nat} (hj : j < L.length) : w.cell? ⟨g, j * 2 + 1, none⟩ = some (.int .i64 ((L.getD j Lvl.none).times : Int)) :=
  ownsRow_cell h.row (lvCells_at1 vs L j h.len hj)
theorem LvAt.drew {w : World} {g cap : Nat} {vs : List Value} {L : List Lvl} (h : LvAt F w g cap vs L) : LvAt F w.drew g cap vs L := ⟨h.row, h.len, h.its, h.fp⟩
theorem LvAt.free {w : World} {g cap : Nat} {vs : List Value} {L : List Lvl} (h : LvAt F w g cap vs L) (j : Nat) : w.frozen? ⟨g, j, none⟩ = false := by
  rcases h.row.2 with ⟨hv, _⟩ | ⟨g', cap', cur', hv, _, hh, _⟩
  · cases hv
  · cases hv; simp [World.frozen?, hh]
theorem LvAt.below {w w' : World} {g cap : Nat} {vs : List Value} {L : List Lvl} (h : LvAt F w g cap vs L) (hB : Below w.heap.size w w') : LvAt F w' g cap vs L :=
  ⟨ownsRow_below h.row hB (fun _ hg => ownsRow_lt h.row hg), h.len, fun j hj => (h.its j hj).below hB, h.fp⟩
theorem LvAt.one {w : World} {g cap : Nat} {vs : List Value} {L : List Lvl} (h : LvAt F w g cap vs L) : ∀ u ∈ lvCells vs L, u.oneCell' = true :=
  lvCells_one vs L (fun j hj => by obtain ⟨ao, c, e⟩ := (h.its j hj).form; rw [e.1]; rfl)

/-- Whoever keeps all rows keeps the levels: only blocks whose cells are of another kind than rows of numbers and rows of levels may turn. -/
theorem LvAt.block {w w' : World} {g cap : Nat} {vs : List Value} {L : List Lvl} (h : LvAt F w g cap vs L) (hb : ∀ b, (b = g ∨ ∃ c, w.heap[b]? = some (.cells c 3 (0, 0))) → w'.heap[b]? = w.heap[b]?) : LvAt F w' g cap vs L := by
  refine ⟨ownsRow_block h.row (fun b hg => hb b (.inl ?_)), h.len, fun j hj => (h.its j hj).block (fun b hg => hb b (.inr ?_)), h.fp⟩
  · simp [Value.ownBlock] at hg; exact hg.symm
  · rcases (h.its j hj).2 with ⟨e, _⟩ | ⟨g2, c2, cur, e, _, hh, _⟩
    · rw [e] at hg; simp [Value.ownBlock] at hg
    · rw [e] at hg; simp [Value.ownBlock] at hg; subst hg; exact ⟨cur, hh⟩

theorem lvCells_set0 : ∀ (vs : List Value) (L : List Lvl) (h : Nat) (v : Value) (xs : List Int), vs.length = L.length → lvCells (vs.set h v) (setItems L h xs) = (lvCells vs L).set (h * 2) v := by
  intro vs
  induction vs with
  | nil => intro L h v xs hl; cases L with | nil => simp [lvCells, setItems] | cons => simp at hl
  | cons a vs ih =>
    intro L h v xs hl
    cases L with
    | nil => simp at hl
    | cons l L =>
      cases h with
      | zero => simp [lvCells, setItems]
      | succ h =>
        have := ih L h v xs (by simpa using hl)
        simp only [setItems, List.set_cons_succ, List.getD_cons_succ, lvCells] at this ⊢
        rw [show (h + 1) * 2 = h * 2 + 1 + 1 by omega, List.set_cons_succ, List.set_cons_succ, this]
theorem lvCells_set1 : ∀ (vs : List Value) (L : List Lvl) (h t : Nat), vs.length = L.length → lvCells vs (setTimes L h t) = (lvCells vs L).set (h * 2 + 1) (.int .i64 (t : Int)) := by
  intro vs
  induction vs with
  | nil => intro L h t hl; cases L with | nil => simp [lvCells] | cons => simp at hl
  | cons a vs ih =>
    intro L h t hl
    cases L with
    | nil => simp at hl
    | cons l L =>
      cases h with
      | zero => simp [lvCells, setTimes]
      | succ h =>
        have := ih L h t (by simpa using hl)
        simp only [setTimes, List.set_cons_succ, List.getD_cons_succ, lvCells] at this ⊢
        rw [show (h + 1) * 2 = h * 2 + 1 + 1 by omega, List.set_cons_succ, this]
theorem lvCells_push : ∀ (vs : List Value) (L : List Lvl) (v : Value) (l : Lvl), vs.length = L.length → lvCells (vs ++ [v]) (L ++ [l]) = lvCells vs L ++ [v, .int .i64 (l.times : Int)] := by
  intro vs
  induction vs with
  | nil => intro L v l hl; cases L with | nil => simp [lvCells] | cons => simp at hl
  | cons a vs ih =>
    intro L v l hl
    cases L with
    | nil => simp at hl
    | cons b L => simp [lvCells, ih L v l (by simpa using hl)]

/-- A row of numbers lies in another block than one of levels. -/
theorem LvAt.ne {w : World} {g cap : Nat} {vs : List Value} {L : List Lvl} (h : LvAt F w g cap vs L) {c : Array Value} {t : TypeId} {fr : Nat × Nat} {b : Nat} (hb : w.heap[b]? = some (.cells c t fr)) (ht : t ≠ 125) : b ≠ g := by
  intro e
  subst e
  rcases h.row.2 with ⟨hv, _⟩ | ⟨g', cap', cur', hv, _, hh, _⟩
  · cases hv
  · cases hv; rw [hb] at hh; cases hh; exact ht rfl
theorem Ints.kind {w : World} {v : Value} {xs : List Int} (h : Ints w v xs) {b : Nat} (hb : v.ownBlock = some b) : ∃ c, w.heap[b]? = some (.cells c 3 (0, 0)) := by
  rcases h.2 with ⟨e, _⟩ | ⟨g2, c2, cur, e, _, hh, _⟩
  · rw [e] at hb; simp [Value.ownBlock] at hb
  · rw [e] at hb; simp [Value.ownBlock] at hb; subst hb; exact ⟨cur, hh⟩
theorem Ints.setLv {w : World} {v : Value} {xs : List Int} (h : Ints w v xs) {g cap : Nat} {vs : List Value} {L : List Lvl} (hL : LvAt F w g cap vs L) (j : Nat) (u : Value) : Ints (w.setCell ⟨g, j, none⟩ u) v xs :=
  h.block (fun b hb => by
    obtain ⟨c, hc⟩ := h.kind hb
    exact Below.heap_setCell _ _ _ _ (hL.ne hc (by decide)))

theorem LvAt.setItems {w : World} {g cap : Nat} {vs : List Value} {L : List Lvl} (h : LvAt F w g cap vs L) {v : Value} {xs : List Int} (hv : Ints w v xs) (hF : ∀ b, v.ownBlock = some b → F b) {j : Nat} (hj : j < L.length) :
    LvAt F (w.setCell ⟨g, j * 2, none⟩ v) g cap (vs.set j v) (setItems L j xs) := by
  have hs := (h.row.stored (j * 2) v).1
  rw [← lvCells_set0 vs L j v xs h.len] at hs
  have hl := h.len
  refine ⟨by rw [setItems_length]; exact hs, by rw [setItems_length]; simpa using h.len, fun i hi => ?_, fun i hi b hb => ?_⟩
  rotate_left
  · rw [setItems_length] at hi
    by_cases e : i = j
    · subst e
      have : (vs.set i v).getD i undef = v := by simp [List.getD, hl, hj]
      rw [this] at hb
      exact hF b hb
    · have e1 : (vs.set j v).getD i undef = vs.getD i undef := by simp [List.getD, Ne.symm e]
      rw [e1] at hb
      exact h.fp i hi b hb
  rw [setItems_length] at hi
  by_cases e : i = j
  · subst e
    have : (vs.set i v).getD i undef = v := by simp [List.getD, hl, hj]
    rw [this]
    have : ((Go.Proofs.Ytklicjbpjigfdab.setItems L i xs).getD i Lvl.none).items = xs := by simp [Go.Proofs.Ytklicjbpjigfdab.setItems, List.getD, hj]
    rw [this]
    exact hv.setLv h _ _
  · have e1 : (vs.set j v).getD i undef = vs.getD i undef := by simp [List.getD, Ne.symm e]
    have e2 : (Go.Proofs.Ytklicjbpjigfdab.setItems L j xs).getD i Lvl.none = L.getD i Lvl.none := by simp [Go.Proofs.Ytklicjbpjigfdab.setItems, List.getD, Ne.symm e]
    rw [e1, e2]
    exact (h.its i hi).setLv h _ _
theorem LvAt.setTimes {w : World} {g cap : Nat} {vs : List Value} {L : List Lvl} (h : LvAt F w g cap vs L) {t j : Nat} (hj : j < L.length) :
    LvAt F (w.setCell ⟨g, j * 2 + 1, none⟩ (.int .i64 (t : Int))) g cap vs (setTimes L j t) := by
  have hs := (h.row.stored (j * 2 + 1) (.int .i64 (t : Int))).1
  rw [← lvCells_set1 vs L j t h.len] at hs
  refine ⟨by rw [setTimes_length]; exact hs, by rw [setTimes_length]; exact h.len, fun i hi => ?_, fun i hi => h.fp i (by rwa [setTimes_length] at hi)⟩
  rw [setTimes_length] at hi
  by_cases e : i = j
  · subst e
    have : ((Go.Proofs.Ytklicjbpjigfdab.setTimes L i t).getD i Lvl.none).items = (L.getD i Lvl.none).items := by simp [Go.Proofs.Ytklicjbpjigfdab.setTimes, List.getD, hj]
    rw [this]
    exact (h.its i hi).setLv h _ _
  · have e2 : (Go.Proofs.Ytklicjbpjigfdab.setTimes L j t).getD i Lvl.none = L.getD i Lvl.none := by simp [Go.Proofs.Ytklicjbpjigfdab.setTimes, List.getD, Ne.symm e]
    rw [e2]
    exact (h.its i hi).setLv h _ _

/-- The list of a level: a slice of so many numbers. -/
theorem LvAt.itemsForm {w : World} {g cap : Nat} {vs : List Value} {L : List Lvl} (h : LvAt F w g cap vs L) {j : Nat} (hj : j < L.length) :
    ∃ ao c, vs.getD j undef = .slice ao (L.getD j Lvl.none).items.length c := by
  obtain ⟨ao, c, e, _⟩ := (h.its j hj).form
  exact ⟨ao, c, e⟩

end Go.Proofs.Ytklicjbpjigfdab

/- DERIVED. The walk of capacityOf: it returns capOf of its arguments, and changes nothing. -/
namespace Go.Proofs.Ytklicjbpjigfdab
open Go.RowKit



set_option maxHeartbeats 400000 in
theorem capacityOf_any (k d : Nat) (w : World) (hk : k ≤ 64) (hd : d ≤ 30) :
    Calls Try.prog 115 #[.int .i64 (k : Int), .int .i64 (d : Int)] w fun e w' => e = .returned (.int .i64 (capOf k d : Int)) ∧ w' = w := by
  go_enter Try.func115, Try.ntmps115
  go_wp2
  go_loop [5, 6, 7] (fun a b i => ∃ j : Nat, j ≤ d ∧ i = .int .i64 j ∧ a = .int .i64 ((2 ^ j : Nat) : Int) ∧ b = .int .i64 ((3 ^ j : Nat) : Int)) (fun _ _ i => d - (intOf i).toNat)
  case atStart => exact ⟨0, Nat.zero_le _, rfl, rfl, rfl⟩
  case round =>
    obtain ⟨j, hj, rfl, rfl, rfl⟩ := hrel
    have b2 := pow2_bd (j := j) (by omega)
    have b3 := pow3_bd (j := j) (by omega)
    by_cases hlt : j < d
    · have HS2 : Hid ((2 ^ (j + 1) : Nat) = 2 ^ j * 2) := Nat.pow_succ ..
      have HS3 : Hid ((3 ^ (j + 1) : Nat) = 3 ^ j * 3) := Nat.pow_succ ..
      generalize 2 ^ j = p2 at *
      generalize 3 ^ j = p3 at *
      go_wp2
      go_round
      case rel => exact ⟨j + 1, by omega, by go_num, by rw [HS2.out]; go_num, by rw [HS3.out]; go_num⟩
      case measure => simp [intOf]; omega
    · have : j = d := by omega
      subst this
      have HC : Hid (capOf k j = capFrom k (3 ^ j) (2 ^ j) k 2) := rfl
      generalize 2 ^ j = p2 at *
      generalize 3 ^ j = p3 at *
      go_wp2
      go_loop [8] (fun t => ∃ c f : Nat, c + f = k + 2 ∧ t = .int .i64 (c : Int) ∧ Hid (capOf k j = capFrom k p3 p2 f c)) (fun t => k - (intOf t).toNat)
      case atStart => exact ⟨2, k, by omega, rfl, HC⟩
      case round =>
        obtain ⟨c, f, hcf, rfl, hc⟩ := hrel
        have m1 : (c : Int) * (p3 : Int) ≤ 13588814718246834 := mul_bd (a := 66) (by omega) b3
        have m2 : (k : Int) * (p2 : Int) ≤ 68719476736 := mul_bd hk b2
        have m3 := mul_nn c p3
        have m4 := mul_nn k p2
        by_cases h1 : c < k
        · by_cases h2 : (c : Int) * (p3 : Int) < (k : Int) * (p2 : Int)
          · go_wp2
            go_round
            case rel =>
              obtain ⟨f', rfl⟩ : ∃ f', f = f' + 1 := ⟨f - 1, by omega⟩
              refine ⟨c + 1, f', by omega, by go_num, ?_⟩
              have h2' : c * p3 < k * p2 := mul_lt_cast.1 h2
              exact hc.out.trans (capFrom_step ⟨h1, h2'⟩)
            case measure => simp [intOf]; omega
          · have HF : Hid (capOf k j = c) := hc.out.trans (capFrom_stop (fun h => h2 (mul_lt_cast.2 h.2)))
            go_wp2
            go_ret
            exact ⟨ret_int (by rw [HF.out]), rfl⟩
        · have HF : Hid (capOf k j = c) := hc.out.trans (capFrom_stop (fun h => h1 h.1))
          go_wp2
          go_ret
          exact ⟨ret_int (by rw [HF.out]), rfl⟩

end Go.Proofs.Ytklicjbpjigfdab
