/- DERIVED. Plain mathematics of capacities: capOf k d is what the program's search for a capacity comes to. -/
import Derived.WalkKit
namespace Go.Proofs.Ytklicjbpjigfdab
open Go.RowKit

/-- The search's steps: from c on, at most so many. -/
def capFrom (k t3 t2 : Nat) : Nat → Nat → Nat
  | 0, c => c
  | f + 1, c => if c < k ∧ c * t3 < k * t2 then capFrom k t3 t2 f (c + 1) else c

/-- The capacity of the level that has d levels above it. -/
def capOf (k d : Nat) : Nat := capFrom k (3 ^ d) (2 ^ d) k 2

theorem capFrom_stop {k t3 t2 f c : Nat} (h : ¬ (c < k ∧ c * t3 < k * t2)) : capFrom k t3 t2 f c = c := by
  cases f with
  | zero => rfl
  | succ f => rw [capFrom, if_neg h]

theorem capFrom_step {k t3 t2 f c : Nat} (h : c < k ∧ c * t3 < k * t2) : capFrom k t3 t2 (f + 1) c = capFrom k t3 t2 f (c + 1) := by
  rw [capFrom, if_pos h]

theorem pow2_le {j d : Nat} (h : j ≤ d) : 2 ^ j ≤ 2 ^ d := Nat.pow_le_pow_right (by decide) h
theorem pow3_le {j d : Nat} (h : j ≤ d) : 3 ^ j ≤ 3 ^ d := Nat.pow_le_pow_right (by decide) h
theorem pow2_bd {j : Nat} (h : j ≤ 30) : 2 ^ j ≤ 1073741824 := pow2_le (d := 30) h
theorem pow3_bd {j : Nat} (h : j ≤ 30) : 3 ^ j ≤ 205891132094649 := pow3_le (d := 30) h

theorem mul_bd {c p a b : Nat} (h : c ≤ a) (h' : p ≤ b) : (c : Int) * (p : Int) ≤ ((a * b : Nat) : Int) := by
  have := Nat.mul_le_mul h h'
  rw [← Int.natCast_mul]
  exact Int.ofNat_le.2 this
theorem mul_nn (c p : Nat) : 0 ≤ (c : Int) * (p : Int) := by
  rw [← Int.natCast_mul]
  exact Int.natCast_nonneg _
theorem mul_lt_cast {a b c d : Nat} : (a : Int) * (b : Int) < (c : Int) * (d : Int) ↔ a * b < c * d := by
  rw [← Int.natCast_mul, ← Int.natCast_mul]
  exact Int.ofNat_lt

end Go.Proofs.Ytklicjbpjigfdab

/- DERIVED. Plain mathematics of joining two lists in rising order: jn A B is what the program's 'joined' comes to. -/
namespace Go.Proofs.Ytklicjbpjigfdab

def jn : List Int → List Int → List Int
  | A, [] => A
  | A, x :: B => A.takeWhile (fun a => decide (a ≤ x)) ++ x :: jn (A.dropWhile (fun a => decide (a ≤ x))) B

theorem jn_nil (A : List Int) : jn A [] = A := rfl
theorem jn_le {a x : Int} {A B : List Int} (h : a ≤ x) : jn (a :: A) (x :: B) = a :: jn A (x :: B) := by
  simp [jn, h]
theorem jn_gt {a x : Int} {A B : List Int} (h : ¬ a ≤ x) : jn (a :: A) (x :: B) = x :: jn (a :: A) B := by
  simp [jn, h]
theorem jn_end {x : Int} {B : List Int} : jn [] (x :: B) = x :: jn [] B := by simp [jn]

theorem jn_length (B : List Int) : ∀ A, (jn A B).length = A.length + B.length := by
  induction B with
  | nil => intro A; simp [jn]
  | cons x B ih =>
    intro A
    simp only [jn, List.length_append, List.length_cons, ih]
    have := congrArg List.length (List.takeWhile_append_dropWhile (p := fun a => decide (a ≤ x)) (l := A))
    simp only [List.length_append] at this
    omega

theorem drop_at (A : List Int) (i : Nat) (h : i < A.length) : A.drop i = A[i] :: A.drop (i + 1) := List.drop_eq_getElem_cons h

/-- A step: an element of A goes first. -/
theorem step_a {A B xs J : List Int} {i t : Nat} (hi : i < A.length) (ht : t < B.length) (h : xs ++ jn (A.drop i) (B.drop t) = J) (hle : A[i] ≤ B[t]) : (xs ++ [A[i]]) ++ jn (A.drop (i + 1)) (B.drop t) = J := by
  rw [← h, drop_at A i hi, drop_at B t ht, jn_le hle]; simp
/-- A step: the element of B goes. -/
theorem step_b {A B xs J : List Int} {i t : Nat} (ht : t < B.length) (h : xs ++ jn (A.drop i) (B.drop t) = J) (hgt : ∀ hi : i < A.length, ¬ A[i] ≤ B[t]) : (xs ++ [B[t]]) ++ jn (A.drop i) (B.drop (t + 1)) = J := by
  rw [← h, drop_at B t ht]
  by_cases hi : i < A.length
  · rw [drop_at A i hi, jn_gt (hgt hi)]; simp
  · rw [List.drop_eq_nil_of_le (by omega), jn_end]; simp
theorem step_end {A B xs J : List Int} {i t : Nat} (ht : B.length ≤ t) (h : xs ++ jn (A.drop i) (B.drop t) = J) : xs ++ A.drop i = J := by
  rw [← h, List.drop_eq_nil_of_le ht, jn_nil]

end Go.Proofs.Ytklicjbpjigfdab

/- DERIVED. Plain mathematics of sketches: levels, counts, capacities. -/
namespace Go.Proofs.Ytklicjbpjigfdab

/-- A level: its items, and how many times it was thinned. -/
structure Lvl where
  items : List Int
  times : Nat

/-- A sketch: its K, its levels, the least and the greatest that came in. -/
structure Sk where
  k : Nat
  lv : List Lvl
  lo : Int
  hi : Int

def Lvl.none : Lvl := { items := [], times := 0 }

/-- What the items weigh. -/
def wsum : List Lvl → Nat
  | [] => 0
  | l :: L => l.items.length + 2 * wsum L
/-- How many items there are. -/
def nsum : List Lvl → Nat
  | [] => 0
  | l :: L => l.items.length + nsum L
/-- The capacity of n levels. -/
def capSum (k : Nat) : Nat → Nat
  | 0 => 0
  | n + 1 => capSum k n + capOf k n
/-- The lowest level, from h on, that has more items than its capacity. -/
def crowd (k n : Nat) : Nat → List Lvl → Option Nat
  | _, [] => Option.none
  | h, l :: L => if capOf k (n - 1 - h) < l.items.length then some h else crowd k n (h + 1) L
/-- The level to be thinned. -/
def Sk.toThin (s : Sk) : Option Nat := if nsum s.lv ≤ capSum s.k s.lv.length then Option.none else crowd s.k s.lv.length 0 s.lv

/-- Every second one, the first among them. -/
def evens : List Int → List Int
  | [] => []
  | [x] => [x]
  | x :: _ :: r => x :: evens r
/-- What goes up. -/
def upOf (its : List Int) (c : Bool) : List Int := evens (its.drop (its.length % 2 + (if c then 1 else 0)))
/-- A level above h is there. -/
def grow1 (L : List Lvl) (h : Nat) : List Lvl := if h + 1 = L.length then L ++ [Lvl.none] else L
def setItems (L : List Lvl) (h : Nat) (xs : List Int) : List Lvl := L.set h { items := xs, times := (L.getD h Lvl.none).times }
def setTimes (L : List Lvl) (h : Nat) (t : Nat) : List Lvl := L.set h { items := (L.getD h Lvl.none).items, times := t }
/-- Level h thinned by a coin. -/
def thinL (L : List Lvl) (h : Nat) (c : Bool) : List Lvl :=
  let its := (L.getD h Lvl.none).items
  let L1 := grow1 L h
  let L2 := setItems L1 h (its.take (its.length % 2))
  let L3 := setTimes L2 h ((L2.getD h Lvl.none).times + 1)
  setItems L3 (h + 1) (jn (L3.getD (h + 1) Lvl.none).items (upOf its c))

theorem evens_length : ∀ l : List Int, (evens l).length = (l.length + 1) / 2
  | [] => by simp [evens]
  | [x] => by simp [evens]
  | x :: y :: r => by simp only [evens, List.length_cons, evens_length r]; omega
theorem evens_drop {l : List Int} {i : Nat} (h : i < l.length) : evens (l.drop i) = l.getD i 0 :: evens (l.drop (i + 2)) := by
  rw [List.drop_eq_getElem_cons h]
  by_cases h2 : i + 1 < l.length
  · rw [List.drop_eq_getElem_cons h2, evens]; simp [List.getD, h]
  · rw [List.drop_eq_nil_of_le (by omega : l.length ≤ i + 1), List.drop_eq_nil_of_le (by omega : l.length ≤ i + 2)]; simp [evens, List.getD, h]
theorem evens_end {l : List Int} {i : Nat} (h : l.length ≤ i) : evens (l.drop i) = [] := by rw [List.drop_eq_nil_of_le h]; rfl
/-- A step of gathering what goes up. -/
theorem up_step {its xs J : List Int} {i m : Nat} {x : Int} (hm : its.length = m) (hi : i < m) (hx : its.getD i 0 = x) (h : xs ++ evens (its.drop i) = J) : (xs ++ [x]) ++ evens (its.drop (i + 2)) = J := by
  rw [← h, evens_drop (i := i) (by omega), hx]; simp
theorem up_end {its xs J : List Int} {i m : Nat} (hm : its.length = m) (hi : ¬ i < m) (h : xs ++ evens (its.drop i) = J) : xs = J := by
  rw [← h, evens_end (by omega)]; simp
theorem nsum_at {L : List Lvl} {h : Nat} (hh : h < L.length) : (L.getD h Lvl.none).items.length ≤ nsum L := by
  induction L generalizing h with
  | nil => simp at hh
  | cons l L ih =>
    cases h with
    | zero => simp [nsum]
    | succ h => have := ih (h := h) (by simpa using hh); simp only [nsum, List.getD_cons_succ]; omega
theorem setItems_length (L : List Lvl) (h : Nat) (xs : List Int) : (setItems L h xs).length = L.length := by simp [setItems]
theorem setTimes_length (L : List Lvl) (h t : Nat) : (setTimes L h t).length = L.length := by simp [setTimes]
theorem jn_nil_left (B : List Int) : jn [] B = B := by
  induction B with
  | nil => rfl
  | cons x B ih => rw [jn_end, ih]

theorem grow1_at {L : List Lvl} {h j : Nat} (hj : j < L.length) : (grow1 L h).getD j Lvl.none = L.getD j Lvl.none := by
  unfold grow1
  split
  · simp [List.getD, List.getElem?_append, hj]
  · rfl
theorem setItems_times {L : List Lvl} {h j : Nat} {X : List Int} : ((setItems L h X).getD j Lvl.none).times = (L.getD j Lvl.none).times := by
  unfold setItems
  by_cases e : h = j
  · subst e
    by_cases hl : h < L.length <;> simp [List.getD, hl]
  · simp [List.getD, e]
theorem setTimes_items {L : List Lvl} {h j t : Nat} : ((setTimes L h t).getD j Lvl.none).items = (L.getD j Lvl.none).items := by
  unfold setTimes
  by_cases e : h = j
  · subst e
    by_cases hl : h < L.length <;> simp [List.getD, hl]
  · simp [List.getD, e]
theorem setItems_other {L : List Lvl} {h j : Nat} {X : List Int} (e : h ≠ j) : (setItems L h X).getD j Lvl.none = L.getD j Lvl.none := by
  simp [setItems, List.getD, e]

theorem grow1_items {L : List Lvl} {h j b : Nat} (hb : nsum L ≤ b) : ((grow1 L h).getD j Lvl.none).items.length ≤ b := by
  by_cases hj : j < L.length
  · rw [grow1_at hj]; exact Nat.le_trans (nsum_at hj) hb
  · have : (grow1 L h).getD j Lvl.none = Lvl.none := by
      unfold grow1
      split
      · by_cases e : j = L.length
        · subst e; simp [List.getD]
        · simp [List.getD, List.getElem?_append, hj]; rw [List.getElem?_eq_none (by simp; omega)]; rfl
      · simp [List.getD, hj]
    rw [this]; simp [Lvl.none]

/-- The error and the spread. -/
def esum : List Lvl → Nat
  | [] => 0
  | l :: L => l.times + 2 * esum L
def ssum : List Lvl → Nat
  | [] => 0
  | l :: L => l.times + 4 * ssum L
def timesOf (L : List Lvl) : List Int := L.map fun l => (l.times : Int)

theorem nsum_le (L : List Lvl) : nsum L ≤ wsum L := by
  induction L with
  | nil => simp [nsum, wsum]
  | cons l L ih => simp only [nsum, wsum]; omega

theorem lv_drop (L : List Lvl) (j : Nat) (h : j < L.length) : L.drop j = L.getD j Lvl.none :: L.drop (j + 1) := by
  rw [List.drop_eq_getElem_cons h]; simp [List.getD, h]

theorem wsum_drop (L : List Lvl) (j : Nat) (h : j < L.length) : wsum (L.drop j) = (L.getD j Lvl.none).items.length + 2 * wsum (L.drop (j + 1)) := by
  rw [lv_drop L j h, wsum]
theorem nsum_drop (L : List Lvl) (j : Nat) (h : j < L.length) : nsum (L.drop j) = (L.getD j Lvl.none).items.length + nsum (L.drop (j + 1)) := by
  rw [lv_drop L j h, nsum]
theorem wsum_end (L : List Lvl) (j : Nat) (h : L.length ≤ j) : wsum (L.drop j) = 0 := by rw [List.drop_eq_nil_of_le h, wsum]
theorem nsum_end (L : List Lvl) (j : Nat) (h : L.length ≤ j) : nsum (L.drop j) = 0 := by rw [List.drop_eq_nil_of_le h, nsum]

theorem estep {L : List Lvl} {j c p : Nat} (h : j < L.length) (hc : c + p * esum (L.drop j) = esum L) : (c + p * (L.getD j Lvl.none).times) + (p * 2) * esum (L.drop (j + 1)) = esum L := by
  rw [lv_drop L j h, esum, Nat.mul_add] at hc
  rw [← hc, Nat.mul_assoc]; omega
theorem sstep {L : List Lvl} {j c p : Nat} (h : j < L.length) (hc : c + p * p * ssum (L.drop j) = ssum L) : (c + p * p * (L.getD j Lvl.none).times) + ((p * 2) * (p * 2)) * ssum (L.drop (j + 1)) = ssum L := by
  rw [lv_drop L j h, ssum, Nat.mul_add] at hc
  have e : p * 2 * (p * 2) = p * p * 4 := by rw [Nat.mul_comm p 2, Nat.mul_mul_mul_comm, Nat.mul_comm]
  rw [← hc, e, Nat.mul_assoc (p * p) 4]; omega
theorem timesOf_step {L : List Lvl} {j : Nat} (h : j < L.length) : timesOf (L.take (j + 1)) = timesOf (L.take j) ++ [((L.getD j Lvl.none).times : Int)] := by
  rw [timesOf, timesOf, List.take_succ_eq_append_getElem h, List.map_append, List.map_singleton]
  congr 2
  simp [List.getD, h]
theorem esum_end (L : List Lvl) (j : Nat) (h : L.length ≤ j) : esum (L.drop j) = 0 := by rw [List.drop_eq_nil_of_le h, esum]
theorem ssum_end (L : List Lvl) (j : Nat) (h : L.length ≤ j) : ssum (L.drop j) = 0 := by rw [List.drop_eq_nil_of_le h, ssum]
theorem esum_le (L : List Lvl) : esum L ≤ ssum L := by
  induction L with
  | nil => simp [esum, ssum]
  | cons l L ih => simp only [esum, ssum]; omega
/-- A step of counting. -/
theorem wstep {L : List Lvl} {j c p : Nat} (h : j < L.length) (hc : c + p * wsum (L.drop j) = wsum L) : (c + p * (L.getD j Lvl.none).items.length) + (p * 2) * wsum (L.drop (j + 1)) = wsum L := by
  rw [wsum_drop L j h, Nat.mul_add] at hc
  rw [← hc, Nat.mul_assoc]; omega

theorem capFrom_le (k t3 t2 : Nat) : ∀ f c, capFrom k t3 t2 f c ≤ max c k := by
  intro f
  induction f with
  | zero => intro c; simp only [capFrom]; omega
  | succ f ih =>
    intro c
    simp only [capFrom]
    split
    · have := ih (c + 1); omega
    · omega
theorem capFrom_ge (k t3 t2 : Nat) : ∀ f c, c ≤ capFrom k t3 t2 f c := by
  intro f
  induction f with
  | zero => intro c; simp only [capFrom]; omega
  | succ f ih =>
    intro c
    simp only [capFrom]
    split
    · have := ih (c + 1); omega
    · omega
theorem capOf_le (k d : Nat) (hk : 2 ≤ k) : capOf k d ≤ k := by
  have := capFrom_le k (3 ^ d) (2 ^ d) k 2
  unfold capOf; omega
theorem capOf_ge (k d : Nat) : 2 ≤ capOf k d := capFrom_ge _ _ _ _ _
theorem capOf_bd (k d : Nat) (hk : k ≤ 64) : capOf k d ≤ 64 := by
  have := capFrom_le k (3 ^ d) (2 ^ d) k 2
  unfold capOf; omega
theorem capSum_bd (k n : Nat) (hk : k ≤ 64) : capSum k n ≤ 64 * n := by
  induction n with
  | zero => simp [capSum]
  | succ n ih => have := capOf_bd k n hk; simp only [capSum]; omega

end Go.Proofs.Ytklicjbpjigfdab

/- DERIVED. Plain mathematics of texts: what is written of a sketch, what a text says, and that the text of a sketch says the sketch. -/
namespace Go.Proofs.Ytklicjbpjigfdab

/-- A number's bytes, the lowest first. -/
def leB : Nat → Nat → List Nat
  | 0, _ => []
  | b + 1, n => n % 256 :: leB b (n / 256)
/-- The number of such bytes. -/
def leV : List Nat → Nat
  | [] => 0
  | b :: bs => b + 256 * leV bs
theorem leB_length : ∀ b n, (leB b n).length = b
  | 0, _ => rfl
  | b + 1, n => by simp [leB, leB_length b]
theorem leB_lt : ∀ b n, ∀ x ∈ leB b n, x < 256
  | 0, _, x, h => by simp [leB] at h
  | b + 1, n, x, h => by
    simp only [leB, List.mem_cons] at h
    rcases h with rfl | h
    · exact Nat.mod_lt _ (by decide)
    · exact leB_lt b _ x h
theorem leV_leB : ∀ b n, n < 256 ^ b → leV (leB b n) = n
  | 0, n, h => by simp at h; subst h; rfl
  | b + 1, n, h => by
    have : n / 256 < 256 ^ b := by
      rw [Nat.pow_succ] at h
      exact Nat.div_lt_of_lt_mul (by rw [Nat.mul_comm]; exact h)
    rw [leB, leV, leV_leB b _ this]; omega
theorem leV_lt : ∀ l : List Nat, (∀ x ∈ l, x < 256) → leV l < 256 ^ l.length
  | [], _ => by simp [leV]
  | b :: bs, h => by
    have h1 := leV_lt bs (fun x hx => h x (by simp [hx]))
    have h2 := h b (by simp)
    rw [leV, List.length_cons, Nat.pow_succ]; omega

/-- A number of 64 bits as one without a sign, and back. -/
def u64 (x : Int) : Nat := (x % 18446744073709551616).toNat
def s64 (n : Nat) : Int := if n < 9223372036854775808 then (n : Int) else (n : Int) - 18446744073709551616
theorem u64_lt (x : Int) : u64 x < 256 ^ 8 := by unfold u64; omega
theorem s64_u64 {x : Int} (h1 : -9223372036854775808 ≤ x) (h2 : x ≤ 9223372036854775807) : s64 (u64 x) = x := by
  unfold s64 u64; split <;> omega
theorem s64_bd {n : Nat} (h : n < 256 ^ 8) : -9223372036854775808 ≤ s64 n ∧ s64 n ≤ 9223372036854775807 := by
  unfold s64; split <;> omega

/-- What is written of the levels' sizes and times. -/
def hdrB : List Lvl → List Nat
  | [] => []
  | l :: L => leB 1 l.items.length ++ (leB 4 l.times ++ hdrB L)
def numsB : List Int → List Nat
  | [] => []
  | x :: xs => leB 8 (u64 x) ++ numsB xs
def itemsB : List Lvl → List Nat
  | [] => []
  | l :: L => numsB l.items ++ itemsB L
def endsB (s : Sk) : List Nat := if wsum s.lv = 0 then [] else leB 8 (u64 s.lo) ++ leB 8 (u64 s.hi)
/-- All but the check. -/
def bodyB (s : Sk) : List Nat := [83, 75] ++ (leB 1 s.k ++ (leB 1 s.lv.length ++ (hdrB s.lv ++ (endsB s ++ itemsB s.lv))))
/-- The check. -/
def ckA : List Nat → Nat → Nat
  | [], a => a
  | b :: bs, a => ckA bs ((a + b) % 256)
def ckB : List Nat → Nat → Nat → Nat
  | [], _, c => c
  | b :: bs, a, c => ckB bs ((a + b) % 256) ((c + (a + b) % 256) % 256)
/-- A sketch's text. -/
def writeB (s : Sk) : List Nat := bodyB s ++ (leB 1 (ckA (bodyB s) 0) ++ leB 1 (ckB (bodyB s) 0 0))

/-- What a text says of the levels: how many items, how many times. -/
def toldHd : Nat → List Nat → List (Nat × Nat)
  | 0, _ => []
  | n + 1, r => (leV (r.take 1), leV ((r.drop 1).take 4)) :: toldHd n ((r.drop 1).drop 4)
def toldNums : Nat → List Nat → List Int
  | 0, _ => []
  | n + 1, r => s64 (leV (r.take 8)) :: toldNums n (r.drop 8)
def toldLv : List (Nat × Nat) → List Nat → List Lvl
  | [], _ => []
  | (n, t) :: hs, r => { items := toldNums n r, times := t } :: toldLv hs (r.drop (8 * n))
def hsum : List (Nat × Nat) → Nat
  | [] => 0
  | (n, _) :: hs => n + hsum hs
/-- What a text says. -/
def toldR (k : Nat) (hs : List (Nat × Nat)) (r : List Nat) : Sk :=
  if hsum hs = 0 then { k := k, lv := toldLv hs r, lo := 0, hi := 0 }
  else { k := k, lv := toldLv hs ((r.drop 8).drop 8), lo := s64 (leV (r.take 8)), hi := s64 (leV ((r.drop 8).take 8)) }
def toldS (text : List Nat) : Sk :=
  let r := text.drop 2
  let n := leV ((r.drop 1).take 1)
  toldR (leV (r.take 1)) (toldHd n ((r.drop 1).drop 1)) (((r.drop 1).drop 1).drop (5 * n))

theorem toldHd_length : ∀ n r, (toldHd n r).length = n
  | 0, _ => rfl
  | n + 1, r => by simp [toldHd, toldHd_length n]
theorem toldNums_length : ∀ n r, (toldNums n r).length = n
  | 0, _ => rfl
  | n + 1, r => by simp [toldNums, toldNums_length n]
theorem toldLv_length : ∀ hs r, (toldLv hs r).length = hs.length
  | [], _ => rfl
  | (n, t) :: hs, r => by simp [toldLv, toldLv_length hs]

/-! The text of a sketch says the sketch. -/

theorem le_take (b n : Nat) (r : List Nat) : (leB b n ++ r).take b = leB b n := by
  rw [List.take_append_of_le_length (by rw [leB_length]; exact Nat.le_refl _), List.take_of_length_le (by rw [leB_length]; exact Nat.le_refl _)]
theorem le_drop (b n : Nat) (r : List Nat) : (leB b n ++ r).drop b = r := by
  rw [List.drop_append_of_le_length (by rw [leB_length]; exact Nat.le_refl _), List.drop_eq_nil_of_le (by rw [leB_length]; exact Nat.le_refl _), List.nil_append]
theorem hdrB_length : ∀ L : List Lvl, (hdrB L).length = 5 * L.length
  | [] => rfl
  | l :: L => by simp [hdrB, leB_length, hdrB_length L]; omega
theorem numsB_length : ∀ xs : List Int, (numsB xs).length = 8 * xs.length
  | [] => rfl
  | x :: xs => by simp [numsB, leB_length, numsB_length xs]; omega
theorem itemsB_length : ∀ L : List Lvl, (itemsB L).length = 8 * nsum L
  | [] => rfl
  | l :: L => by simp [itemsB, numsB_length, itemsB_length L, nsum]; omega

/-- What a level needs, so that its text says it. -/
def LvFits (l : Lvl) : Prop := l.items.length < 256 ∧ l.times < 4294967296 ∧ ∀ x ∈ l.items, -9223372036854775808 ≤ x ∧ x ≤ 9223372036854775807
theorem toldHd_hdrB : ∀ (L : List Lvl) (r : List Nat), (∀ l ∈ L, LvFits l) → toldHd L.length (hdrB L ++ r) = L.map fun l => (l.items.length, l.times)
  | [], _, _ => rfl
  | l :: L, r, h => by
    have hl := h l (by simp)
    rw [hdrB, List.length_cons, toldHd, List.append_assoc, List.append_assoc, le_take, le_drop, le_take, le_drop, leV_leB _ _ hl.1, leV_leB _ _ hl.2.1, toldHd_hdrB L r (fun x hx => h x (by simp [hx]))]
    rfl
theorem toldNums_numsB : ∀ (xs : List Int) (r : List Nat), (∀ x ∈ xs, -9223372036854775808 ≤ x ∧ x ≤ 9223372036854775807) → toldNums xs.length (numsB xs ++ r) = xs
  | [], _, _ => rfl
  | x :: xs, r, h => by
    have hx := h x (by simp)
    rw [numsB, List.length_cons, toldNums, List.append_assoc, le_take, le_drop, leV_leB _ _ (u64_lt x), s64_u64 hx.1 hx.2, toldNums_numsB xs r (fun y hy => h y (by simp [hy]))]
theorem numsB_drop (xs : List Int) (r : List Nat) : (numsB xs ++ r).drop (8 * xs.length) = r := by
  rw [← numsB_length, List.drop_append_of_le_length (Nat.le_refl _), List.drop_eq_nil_of_le (Nat.le_refl _), List.nil_append]
theorem toldLv_itemsB : ∀ (L : List Lvl) (r : List Nat), (∀ l ∈ L, LvFits l) → toldLv (L.map fun l => (l.items.length, l.times)) (itemsB L ++ r) = L
  | [], _, _ => rfl
  | l :: L, r, h => by
    have hl := h l (by simp)
    rw [itemsB, List.map_cons, toldLv, List.append_assoc, toldNums_numsB _ _ hl.2.2, numsB_drop, toldLv_itemsB L r (fun x hx => h x (by simp [hx]))]
theorem hsum_map : ∀ L : List Lvl, hsum (L.map fun l => (l.items.length, l.times)) = nsum L
  | [] => rfl
  | l :: L => by simp [hsum, nsum, hsum_map L]
theorem wsum_zero : ∀ L : List Lvl, wsum L = 0 ↔ nsum L = 0
  | [] => by simp [wsum, nsum]
  | l :: L => by have := wsum_zero L; simp only [wsum, nsum]; omega

/-- What a sketch needs, so that its text says it. -/
structure SkFits (s : Sk) : Prop where
  k : s.k < 256
  n : s.lv.length < 256
  lv : ∀ l ∈ s.lv, LvFits l
  lo : -9223372036854775808 ≤ s.lo ∧ s.lo ≤ 9223372036854775807
  hi : -9223372036854775808 ≤ s.hi ∧ s.hi ≤ 9223372036854775807
  none : wsum s.lv = 0 → s.lo = 0 ∧ s.hi = 0

theorem told_body {s : Sk} (h : SkFits s) (r : List Nat) : toldS (bodyB s ++ r) = s := by
  have e0 : (bodyB s ++ r).drop 2 = leB 1 s.k ++ (leB 1 s.lv.length ++ (hdrB s.lv ++ (endsB s ++ (itemsB s.lv ++ r)))) := by simp [bodyB, List.append_assoc]
  have hl := h.n
  unfold toldS
  simp only []
  rw [e0, le_take, le_drop, le_take, le_drop, leV_leB _ _ h.k, leV_leB _ _ h.n, toldHd_hdrB _ _ h.lv, ← hdrB_length, List.drop_append_of_le_length (Nat.le_refl _), List.drop_eq_nil_of_le (Nat.le_refl _), List.nil_append]
  unfold toldR endsB
  rw [hsum_map]
  by_cases hw : wsum s.lv = 0
  · rw [if_pos ((wsum_zero _).1 hw), if_pos hw, List.nil_append, toldLv_itemsB _ _ h.lv]
    obtain ⟨a, b⟩ := h.none hw
    cases s; simp_all
  · rw [if_neg (fun e => hw ((wsum_zero _).2 e)), if_neg hw, List.append_assoc, le_take, le_drop, le_take, le_drop, leV_leB _ _ (u64_lt _), leV_leB _ _ (u64_lt _), toldLv_itemsB _ _ h.lv, s64_u64 h.lo.1 h.lo.2, s64_u64 h.hi.1 h.hi.2]
theorem told_write {s : Sk} (h : SkFits s) : toldS (writeB s) = s := told_body h _

/-! What a text says fits, if it is of bytes. -/

theorem mem_take {α : Type} {l : List α} {x : α} {n : Nat} (h : x ∈ l.take n) : x ∈ l := List.mem_of_mem_take h
theorem leV_take {l : List Nat} (h : ∀ x ∈ l, x < 256) (n : Nat) : leV (l.take n) < 256 ^ n := by
  refine Nat.lt_of_lt_of_le (leV_lt _ (fun x hx => h x (mem_take hx))) (Nat.pow_le_pow_right (by decide) ?_)
  rw [List.length_take]; omega
theorem of_drop {l : List Nat} (h : ∀ x ∈ l, x < 256) (n : Nat) : ∀ x ∈ l.drop n, x < 256 := fun x hx => h x (List.mem_of_mem_drop hx)
theorem toldNums_bd : ∀ (n : Nat) (r : List Nat), (∀ x ∈ r, x < 256) → ∀ x ∈ toldNums n r, -9223372036854775808 ≤ x ∧ x ≤ 9223372036854775807
  | 0, _, _, x, hx => by simp [toldNums] at hx
  | n + 1, r, h, x, hx => by
    simp only [toldNums, List.mem_cons] at hx
    rcases hx with rfl | hx
    · exact s64_bd (leV_take h 8)
    · exact toldNums_bd n _ (of_drop h 8) x hx
theorem toldHd_bd : ∀ (n : Nat) (r : List Nat), (∀ x ∈ r, x < 256) → ∀ p ∈ toldHd n r, p.1 < 256 ∧ p.2 < 4294967296
  | 0, _, _, p, hp => by simp [toldHd] at hp
  | n + 1, r, h, p, hp => by
    simp only [toldHd, List.mem_cons] at hp
    rcases hp with rfl | hp
    · exact ⟨leV_take h 1, leV_take (of_drop h 1) 4⟩
    · exact toldHd_bd n _ (of_drop (of_drop h 1) 4) p hp
theorem toldLv_fits : ∀ (hs : List (Nat × Nat)) (r : List Nat), (∀ x ∈ r, x < 256) → (∀ p ∈ hs, p.1 < 256 ∧ p.2 < 4294967296) → ∀ l ∈ toldLv hs r, LvFits l
  | [], _, _, _, l, hl => by simp [toldLv] at hl
  | (n, t) :: hs, r, h, hp, l, hl => by
    simp only [toldLv, List.mem_cons] at hl
    have h0 := hp (n, t) (by simp)
    rcases hl with rfl | hl
    · exact ⟨by simp only [toldNums_length]; exact h0.1, h0.2, toldNums_bd n r h⟩
    · exact toldLv_fits hs _ (of_drop h _) (fun p hp' => hp p (by simp [hp'])) l hl
theorem nsum_toldLv : ∀ (hs : List (Nat × Nat)) (r : List Nat), nsum (toldLv hs r) = hsum hs
  | [], _ => rfl
  | (n, t) :: hs, r => by simp [toldLv, nsum, hsum, toldNums_length, nsum_toldLv hs]
theorem toldS_fits {t : List Nat} (h : ∀ x ∈ t, x < 256) : SkFits (toldS t) := by
  have h1 := of_drop h 2
  have h2 := of_drop h1 1
  have h3 := of_drop h2 1
  have hn := leV_take h2 1
  have hh := toldHd_bd (leV (((t.drop 2).drop 1).take 1)) _ h3
  have h4 := of_drop h3 (5 * leV (((t.drop 2).drop 1).take 1))
  unfold toldS
  simp only []
  generalize hN : leV (((t.drop 2).drop 1).take 1) = n at *
  have hlen := toldHd_length n (((t.drop 2).drop 1).drop 1)
  generalize toldHd n (((t.drop 2).drop 1).drop 1) = hs at *
  generalize (((t.drop 2).drop 1).drop 1).drop (5 * n) = r at *
  have hk := leV_take h1 1
  unfold toldR
  split
  next e => exact ⟨hk, by simp only [toldLv_length, hlen]; exact hn, toldLv_fits hs r h4 hh, by simp, by simp, fun _ => ⟨rfl, rfl⟩⟩
  next e =>
    refine ⟨hk, by simp only [toldLv_length, hlen]; exact hn, toldLv_fits hs _ (of_drop (of_drop h4 8) 8) hh, s64_bd (leV_take h4 8), s64_bd (leV_take (of_drop h4 8) 8), fun h0 => absurd ?_ e⟩
    rw [wsum_zero, nsum_toldLv] at h0
    exact h0

end Go.Proofs.Ytklicjbpjigfdab
