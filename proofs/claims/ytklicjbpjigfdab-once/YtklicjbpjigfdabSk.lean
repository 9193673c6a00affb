/- DERIVED. Plain mathematics of sketches: levels, counts, capacities. -/
import Derived.Test.YtklicjbpjigfdabNk
namespace Go.Proofs.Ytklicjbpjigfdab

/-- A level: its items, and how many times it was thinned. -/
structure Lvl where
  items : List Int
  times : Nat

/-- A sketch: its K, its levels, the least and the greatest that came in. -/
structure Sk where
  k : Nat
  lv : List Lvl
  lo : Int
  hi : Int

def Lvl.none : Lvl := { items := [], times := 0 }

/-- What the items weigh. -/
def wsum : List Lvl → Nat
  | [] => 0
  | l :: L => l.items.length + 2 * wsum L
/-- How many items there are. -/
def nsum : List Lvl → Nat
  | [] => 0
  | l :: L => l.items.length + nsum L
/-- The capacity of n levels. -/
def capSum (k : Nat) : Nat → Nat
  | 0 => 0
  | n + 1 => capSum k n + capOf k n
/-- The lowest level, from h on, that has more items than its capacity. -/
def crowd (k n : Nat) : Nat → List Lvl → Option Nat
  | _, [] => Option.none
  | h, l :: L => if capOf k (n - 1 - h) < l.items.length then some h else crowd k n (h + 1) L
/-- The level to be thinned. -/
def Sk.toThin (s : Sk) : Option Nat := if nsum s.lv ≤ capSum s.k s.lv.length then Option.none else crowd s.k s.lv.length 0 s.lv

/-- Every second one, the first among them. -/
def evens : List Int → List Int
  | [] => []
  | [x] => [x]
  | x :: _ :: r => x :: evens r
/-- What goes up. -/
def upOf (its : List Int) (c : Bool) : List Int := evens (its.drop (its.length % 2 + (if c then 1 else 0)))
/-- A level above h is there. -/
def grow1 (L : List Lvl) (h : Nat) : List Lvl := if h + 1 = L.length then L ++ [Lvl.none] else L
def setItems (L : List Lvl) (h : Nat) (xs : List Int) : List Lvl := L.set h { items := xs, times := (L.getD h Lvl.none).times }
def setTimes (L : List Lvl) (h : Nat) (t : Nat) : List Lvl := L.set h { items := (L.getD h Lvl.none).items, times := t }
/-- Level h thinned by a coin. -/
def thinL (L : List Lvl) (h : Nat) (c : Bool) : List Lvl :=
  let its := (L.getD h Lvl.none).items
  let L1 := grow1 L h
  let L2 := setItems L1 h (its.take (its.length % 2))
  let L3 := setTimes L2 h ((L2.getD h Lvl.none).times + 1)
  setItems L3 (h + 1) (jn (L3.getD (h + 1) Lvl.none).items (upOf its c))

theorem evens_length : ∀ l : List Int, (evens l).length = (l.length + 1) / 2
  | [] => by simp [evens]
  | [x] => by simp [evens]
  | x :: y :: r => by simp only [evens, List.length_cons, evens_length r]; omega
theorem evens_drop {l : List Int} {i : Nat} (h : i < l.length) : evens (l.drop i) = l.getD i 0 :: evens (l.drop (i + 2)) := by
  rw [List.drop_eq_getElem_cons h]
  by_cases h2 : i + 1 < l.length
  · rw [List.drop_eq_getElem_cons h2, evens]; simp [List.getD, h]
  · rw [List.drop_eq_nil_of_le (by omega : l.length ≤ i + 1), List.drop_eq_nil_of_le (by omega : l.length ≤ i + 2)]; simp [evens, List.getD, h]
theorem evens_end {l : List Int} {i : Nat} (h : l.length ≤ i) : evens (l.drop i) = [] := by rw [List.drop_eq_nil_of_le h]; rfl
/-- A step of gathering what goes up. -/
theorem up_step {its xs J : List Int} {i m : Nat} {x : Int} (hm : its.length = m) (hi : i < m) (hx : its.getD i 0 = x) (h : xs ++ evens (its.drop i) = J) : (xs ++ [x]) ++ evens (its.drop (i + 2)) = J := by
  rw [← h, evens_drop (i := i) (by omega), hx]; simp
theorem up_end {its xs J : List Int} {i m : Nat} (hm : its.length = m) (hi : ¬ i < m) (h : xs ++ evens (its.drop i) = J) : xs = J := by
  rw [← h, evens_end (by omega)]; simp
theorem nsum_at {L : List Lvl} {h : Nat} (hh : h < L.length) : (L.getD h Lvl.none).items.length ≤ nsum L := by
  induction L generalizing h with
  | nil => simp at hh
  | cons l L ih =>
    cases h with
    | zero => simp [nsum]
    | succ h => have := ih (h := h) (by simpa using hh); simp only [nsum, List.getD_cons_succ]; omega
theorem setItems_length (L : List Lvl) (h : Nat) (xs : List Int) : (setItems L h xs).length = L.length := by simp [setItems]
theorem setTimes_length (L : List Lvl) (h t : Nat) : (setTimes L h t).length = L.length := by simp [setTimes]
theorem jn_nil_left (B : List Int) : jn [] B = B := by
  induction B with
  | nil => rfl
  | cons x B ih => rw [jn_end, ih]

theorem grow1_at {L : List Lvl} {h j : Nat} (hj : j < L.length) : (grow1 L h).getD j Lvl.none = L.getD j Lvl.none := by
  unfold grow1
  split
  · simp [List.getD, List.getElem?_append, hj]
  · rfl
theorem setItems_times {L : List Lvl} {h j : Nat} {X : List Int} : ((setItems L h X).getD j Lvl.none).times = (L.getD j Lvl.none).times := by
  unfold setItems
  by_cases e : h = j
  · subst e
    by_cases hl : h < L.length <;> simp [List.getD, hl]
  · simp [List.getD, e]
theorem setTimes_items {L : List Lvl} {h j t : Nat} : ((setTimes L h t).getD j Lvl.none).items = (L.getD j Lvl.none).items := by
  unfold setTimes
  by_cases e : h = j
  · subst e
    by_cases hl : h < L.length <;> simp [List.getD, hl]
  · simp [List.getD, e]
theorem setItems_other {L : List Lvl} {h j : Nat} {X : List Int} (e : h ≠ j) : (setItems L h X).getD j Lvl.none = L.getD j Lvl.none := by
  simp [setItems, List.getD, e]

theorem grow1_items {L : List Lvl} {h j b : Nat} (hb : nsum L ≤ b) : ((grow1 L h).getD j Lvl.none).items.length ≤ b := by
  by_cases hj : j < L.length
  · rw [grow1_at hj]; exact Nat.le_trans (nsum_at hj) hb
  · have : (grow1 L h).getD j Lvl.none = Lvl.none := by
      unfold grow1
      split
      · by_cases e : j = L.length
        · subst e; simp [List.getD]
        · simp [List.getD, List.getElem?_append, hj]; rw [List.getElem?_eq_none (by simp; omega)]; rfl
      · simp [List.getD, hj]
    rw [this]; simp [Lvl.none]

/-- The error and the spread. -/
def esum : List Lvl → Nat
  | [] => 0
  | l :: L => l.times + 2 * esum L
def ssum : List Lvl → Nat
  | [] => 0
  | l :: L => l.times + 4 * ssum L
def timesOf (L : List Lvl) : List Int := L.map fun l => (l.times : Int)

theorem nsum_le (L : List Lvl) : nsum L ≤ wsum L := by
  induction L with
  | nil => simp [nsum, wsum]
  | cons l L ih => simp only [nsum, wsum]; omega

theorem lv_drop (L : List Lvl) (j : Nat) (h : j < L.length) : L.drop j = L.getD j Lvl.none :: L.drop (j + 1) := by
  rw [List.drop_eq_getElem_cons h]; simp [List.getD, h]

theorem wsum_drop (L : List Lvl) (j : Nat) (h : j < L.length) : wsum (L.drop j) = (L.getD j Lvl.none).items.length + 2 * wsum (L.drop (j + 1)) := by
  rw [lv_drop L j h, wsum]
theorem nsum_drop (L : List Lvl) (j : Nat) (h : j < L.length) : nsum (L.drop j) = (L.getD j Lvl.none).items.length + nsum (L.drop (j + 1)) := by
  rw [lv_drop L j h, nsum]
theorem wsum_end (L : List Lvl) (j : Nat) (h : L.length ≤ j) : wsum (L.drop j) = 0 := by rw [List.drop_eq_nil_of_le h, wsum]
theorem nsum_end (L : List Lvl) (j : Nat) (h : L.length ≤ j) : nsum (L.drop j) = 0 := by rw [List.drop_eq_nil_of_le h, nsum]

theorem estep {L : List Lvl} {j c p : Nat} (h : j < L.length) (hc : c + p * esum (L.drop j) = esum L) : (c + p * (L.getD j Lvl.none).times) + (p * 2) * esum (L.drop (j + 1)) = esum L := by
  rw [lv_drop L j h, esum, Nat.mul_add] at hc
  rw [← hc, Nat.mul_assoc]; omega
theorem sstep {L : List Lvl} {j c p : Nat} (h : j < L.length) (hc : c + p * p * ssum (L.drop j) = ssum L) : (c + p * p * (L.getD j Lvl.none).times) + ((p * 2) * (p * 2)) * ssum (L.drop (j + 1)) = ssum L := by
  rw [lv_drop L j h, ssum, Nat.mul_add] at hc
  have e : p * 2 * (p * 2) = p * p * 4 := by rw [Nat.mul_comm p 2, Nat.mul_mul_mul_comm, Nat.mul_comm]
  rw [← hc, e, Nat.mul_assoc (p * p) 4]; omega
theorem timesOf_step {L : List Lvl} {j : Nat} (h : j < L.length) : timesOf (L.take (j + 1)) = timesOf (L.take j) ++ [((L.getD j Lvl.none).times : Int)] := by
  rw [timesOf, timesOf, List.take_succ_eq_append_getElem h, List.map_append, List.map_singleton]
  congr 2
  simp [List.getD, h]
theorem esum_end (L : List Lvl) (j : Nat) (h : L.length ≤ j) : esum (L.drop j) = 0 := by rw [List.drop_eq_nil_of_le h, esum]
theorem ssum_end (L : List Lvl) (j : Nat) (h : L.length ≤ j) : ssum (L.drop j) = 0 := by rw [List.drop_eq_nil_of_le h, ssum]
theorem esum_le (L : List Lvl) : esum L ≤ ssum L := by
  induction L with
  | nil => simp [esum, ssum]
  | cons l L ih => simp only [esum, ssum]; omega
/-- A step of counting. -/
theorem wstep {L : List Lvl} {j c p : Nat} (h : j < L.length) (hc : c + p * wsum (L.drop j) = wsum L) : (c + p * (L.getD j Lvl.none).items.length) + (p * 2) * wsum (L.drop (j + 1)) = wsum L := by
  rw [wsum_drop L j h, Nat.mul_add] at hc
  rw [← hc, Nat.mul_assoc]; omega

theorem capFrom_le (k t3 t2 : Nat) : ∀ f c, capFrom k t3 t2 f c ≤ max c k := by
  intro f
  induction f with
  | zero => intro c; simp only [capFrom]; omega
  | succ f ih =>
    intro c
    simp only [capFrom]
    split
    · have := ih (c + 1); omega
    · omega
theorem capFrom_ge (k t3 t2 : Nat) : ∀ f c, c ≤ capFrom k t3 t2 f c := by
  intro f
  induction f with
  | zero => intro c; simp only [capFrom]; omega
  | succ f ih =>
    intro c
    simp only [capFrom]
    split
    · have := ih (c + 1); omega
    · omega
theorem capOf_le (k d : Nat) (hk : 2 ≤ k) : capOf k d ≤ k := by
  have := capFrom_le k (3 ^ d) (2 ^ d) k 2
  unfold capOf; omega
theorem capOf_ge (k d : Nat) : 2 ≤ capOf k d := capFrom_ge _ _ _ _ _
theorem capOf_bd (k d : Nat) (hk : k ≤ 64) : capOf k d ≤ 64 := by
  have := capFrom_le k (3 ^ d) (2 ^ d) k 2
  unfold capOf; omega
theorem capSum_bd (k n : Nat) (hk : k ≤ 64) : capSum k n ≤ 64 * n := by
  induction n with
  | zero => simp [capSum]
  | succ n ih => have := capOf_bd k n hk; simp only [capSum]; omega

end Go.Proofs.Ytklicjbpjigfdab
