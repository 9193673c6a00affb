/- DERIVED. Plain mathematics: sums over the levels from one on. -/
import Derived.Test.YtklicjbpjigfdabSpaceP
import Derived.Test.YtklicjbpjigfdabMem
import Derived.Test.YtklicjbpjigfdabSk
namespace Go.Proofs.Ytklicjbpjigfdab
open Go.RowKit

theorem tsum_drop (L : List Lvl) (j : Nat) (h : j < L.length) : tsum (L.drop j) = (L.getD j Lvl.none).times + tsum (L.drop (j + 1)) := by
  rw [List.drop_eq_getElem_cons h, tsum]; simp [List.getD, h]
theorem wsum_drop' (L : List Lvl) (j : Nat) (h : j < L.length) : wsum (L.drop j) = (L.getD j Lvl.none).items.length + 2 * wsum (L.drop (j + 1)) := by
  rw [List.drop_eq_getElem_cons h, wsum]; simp [List.getD, h]
theorem wsum_drop_le : ∀ (L : List Lvl) (j : Nat), 2 ^ j * wsum (L.drop j) ≤ wsum L
  | _, 0 => by simp
  | [], j + 1 => by simp [wsum]
  | l :: L, j + 1 => by
    have := wsum_drop_le L j
    simp only [List.drop_succ_cons, wsum]
    rw [Nat.pow_succ, Nat.mul_right_comm]
    omega
theorem nsum_drop_le (L : List Lvl) (j : Nat) : nsum (L.drop j) ≤ nsum L := by
  induction L generalizing j with
  | nil => simp
  | cons l L ih =>
    cases j with
    | zero => simp
    | succ j => have := ih j; simp only [List.drop_succ_cons, nsum]; omega
theorem tsum_drop_le (L : List Lvl) (j : Nat) : tsum (L.drop j) ≤ tsum L := by
  induction L generalizing j with
  | nil => simp
  | cons l L ih =>
    cases j with
    | zero => simp
    | succ j => have := ih j; simp only [List.drop_succ_cons, tsum]; omega

end Go.Proofs.Ytklicjbpjigfdab

/- DERIVED. What Ends answers, in three numbers. -/
namespace Go.Proofs.Ytklicjbpjigfdab
open Go.RowKit

/-- What Ends answers, in three numbers. -/
def eLo (s : Sk) : Int := if wsum s.lv = 0 then 0 else s.lo
def eHi (s : Sk) : Int := if wsum s.lv = 0 then 0 else s.hi
def eEr (s : Sk) : Int := if wsum s.lv = 0 then 8 else 0
theorem ends_form (s : Sk) : (if wsum s.lv = 0 then Value.tuple #[.int .i64 0, .int .i64 0, .int .i64 8] else .tuple #[.int .i64 s.lo, .int .i64 s.hi, .int .i64 0]) = .tuple #[.int .i64 (eLo s), .int .i64 (eHi s), .int .i64 (eEr s)] := by
  unfold eLo eHi eEr
  split <;> rfl
theorem eEr_zero (s : Sk) : (eEr s == 8) = decide (wsum s.lv = 0) ∧ (eEr s == 0) = !decide (wsum s.lv = 0) := by
  unfold eEr
  split
  · next h => simp [h]
  · next h => simp [h]

end Go.Proofs.Ytklicjbpjigfdab
