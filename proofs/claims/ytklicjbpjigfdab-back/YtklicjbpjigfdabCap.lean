/- DERIVED. Plain mathematics of capacities: capOf k d is what the program's search for a capacity comes to. -/
import Derived.WalkKit
namespace Go.Proofs.Ytklicjbpjigfdab
open Go.RowKit

/-- The search's steps: from c on, at most so many. -/
def capFrom (k t3 t2 : Nat) : Nat → Nat → Nat
  | 0, c => c
  | f + 1, c => if c < k ∧ c * t3 < k * t2 then capFrom k t3 t2 f (c + 1) else c

/-- The capacity of the level that has d levels above it. -/
def capOf (k d : Nat) : Nat := capFrom k (3 ^ d) (2 ^ d) k 2

theorem capFrom_stop {k t3 t2 f c : Nat} (h : ¬ (c < k ∧ c * t3 < k * t2)) : capFrom k t3 t2 f c = c := by
  cases f with
  | zero => rfl
  | succ f => rw [capFrom, if_neg h]

theorem capFrom_step {k t3 t2 f c : Nat} (h : c < k ∧ c * t3 < k * t2) : capFrom k t3 t2 (f + 1) c = capFrom k t3 t2 f (c + 1) := by
  rw [capFrom, if_pos h]

theorem pow2_le {j d : Nat} (h : j ≤ d) : 2 ^ j ≤ 2 ^ d := Nat.pow_le_pow_right (by decide) h
theorem pow3_le {j d : Nat} (h : j ≤ d) : 3 ^ j ≤ 3 ^ d := Nat.pow_le_pow_right (by decide) h
theorem pow2_bd {j : Nat} (h : j ≤ 30) : 2 ^ j ≤ 1073741824 := pow2_le (d := 30) h
theorem pow3_bd {j : Nat} (h : j ≤ 30) : 3 ^ j ≤ 205891132094649 := pow3_le (d := 30) h

theorem mul_bd {c p a b : Nat} (h : c ≤ a) (h' : p ≤ b) : (c : Int) * (p : Int) ≤ ((a * b : Nat) : Int) := by
  have := Nat.mul_le_mul h h'
  rw [← Int.natCast_mul]
  exact Int.ofNat_le.2 this
theorem mul_nn (c p : Nat) : 0 ≤ (c : Int) * (p : Int) := by
  rw [← Int.natCast_mul]
  exact Int.natCast_nonneg _
theorem mul_lt_cast {a b c d : Nat} : (a : Int) * (b : Int) < (c : Int) * (d : Int) ↔ a * b < c * d := by
  rw [← Int.natCast_mul, ← Int.natCast_mul]
  exact Int.ofNat_lt

end Go.Proofs.Ytklicjbpjigfdab
