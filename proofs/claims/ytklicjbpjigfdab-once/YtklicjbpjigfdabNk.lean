/- DERIVED. Plain mathematics of capacities: capOf k d is what the program's search for a capacity comes to. -/
import Derived.WalkKit
namespace Go.Proofs.Ytklicjbpjigfdab
open Go.RowKit

/-- The search's steps: from c on, at most so many. -/
def capFrom (k t3 t2 : Nat) : Nat → Nat → Nat
  | 0, c => c
  | f + 1, c => if c < k ∧ c * t3 < k * t2 then capFrom k t3 t2 f (c + 1) else c

/-- The capacity of the level that has d levels above it. -/
def capOf (k d : Nat) : Nat := capFrom k (3 ^ d) (2 ^ d) k 2

theorem capFrom_stop {k t3 t2 f c : Nat} (h : ¬ (c < k ∧ c * t3 < k * t2)) : capFrom k t3 t2 f c = c := by
  cases f with
  | zero => rfl
  | succ f => rw [capFrom, if_neg h]

theorem capFrom_step {k t3 t2 f c : Nat} (h : c < k ∧ c * t3 < k * t2) : capFrom k t3 t2 (f + 1) c = capFrom k t3 t2 f (c + 1) := by
  rw [capFrom, if_pos h]

theorem pow2_le {j d : Nat} (h : j ≤ d) : 2 ^ j ≤ 2 ^ d := Nat.pow_le_pow_right (by decide) h
theorem pow3_le {j d : Nat} (h : j ≤ d) : 3 ^ j ≤ 3 ^ d := Nat.pow_le_pow_right (by decide) h
theorem pow2_bd {j : Nat} (h : j ≤ 30) : 2 ^ j ≤ 1073741824 := pow2_le (d := 30) h
theorem pow3_bd {j : Nat} (h : j ≤ 30) : 3 ^ j ≤ 205891132094649 := pow3_le (d := 30) h

theorem mul_bd {c p a b : Nat} (h : c ≤ a) (h' : p ≤ b) : (c : Int) * (p : Int) ≤ ((a * b : Nat) : Int) := by
  have := Nat.mul_le_mul h h'
  rw [← Int.natCast_mul]
  exact Int.ofNat_le.2 this
theorem mul_nn (c p : Nat) : 0 ≤ (c : Int) * (p : Int) := by
  rw [← Int.natCast_mul]
  exact Int.natCast_nonneg _
theorem mul_lt_cast {a b c d : Nat} : (a : Int) * (b : Int) < (c : Int) * (d : Int) ↔ a * b < c * d := by
  rw [← Int.natCast_mul, ← Int.natCast_mul]
  exact Int.ofNat_lt

end Go.Proofs.Ytklicjbpjigfdab

/- DERIVED. Plain mathematics of joining two lists in rising order: jn A B is what the program's 'joined' comes to. -/
namespace Go.Proofs.Ytklicjbpjigfdab

def jn : List Int → List Int → List Int
  | A, [] => A
  | A, x :: B => A.takeWhile (fun a => decide (a ≤ x)) ++ x :: jn (A.dropWhile (fun a => decide (a ≤ x))) B

theorem jn_nil (A : List Int) : jn A [] = A := rfl
theorem jn_le {a x : Int} {A B : List Int} (h : a ≤ x) : jn (a :: A) (x :: B) = a :: jn A (x :: B) := by
  simp [jn, h]
theorem jn_gt {a x : Int} {A B : List Int} (h : ¬ a ≤ x) : jn (a :: A) (x :: B) = x :: jn (a :: A) B := by
  simp [jn, h]
theorem jn_end {x : Int} {B : List Int} : jn [] (x :: B) = x :: jn [] B := by simp [jn]

theorem jn_length (B : List Int) : ∀ A, (jn A B).length = A.length + B.length := by
  induction B with
  | nil => intro A; simp [jn]
  | cons x B ih =>
    intro A
    simp only [jn, List.length_append, List.length_cons, ih]
    have := congrArg List.length (List.takeWhile_append_dropWhile (p := fun a => decide (a ≤ x)) (l := A))
    simp only [List.length_append] at this
    omega

theorem drop_at (A : List Int) (i : Nat) (h : i < A.length) : A.drop i = A[i] :: A.drop (i + 1) := List.drop_eq_getElem_cons h

/-- A step: an element of A goes first. -/
theorem step_a {A B xs J : List Int} {i t : Nat} (hi : i < A.length) (ht : t < B.length) (h : xs ++ jn (A.drop i) (B.drop t) = J) (hle : A[i] ≤ B[t]) : (xs ++ [A[i]]) ++ jn (A.drop (i + 1)) (B.drop t) = J := by
  rw [← h, drop_at A i hi, drop_at B t ht, jn_le hle]; simp
/-- A step: the element of B goes. -/
theorem step_b {A B xs J : List Int} {i t : Nat} (ht : t < B.length) (h : xs ++ jn (A.drop i) (B.drop t) = J) (hgt : ∀ hi : i < A.length, ¬ A[i] ≤ B[t]) : (xs ++ [B[t]]) ++ jn (A.drop i) (B.drop (t + 1)) = J := by
  rw [← h, drop_at B t ht]
  by_cases hi : i < A.length
  · rw [drop_at A i hi, jn_gt (hgt hi)]; simp
  · rw [List.drop_eq_nil_of_le (by omega), jn_end]; simp
theorem step_end {A B xs J : List Int} {i t : Nat} (ht : B.length ≤ t) (h : xs ++ jn (A.drop i) (B.drop t) = J) : xs ++ A.drop i = J := by
  rw [← h, List.drop_eq_nil_of_le ht, jn_nil]

end Go.Proofs.Ytklicjbpjigfdab
