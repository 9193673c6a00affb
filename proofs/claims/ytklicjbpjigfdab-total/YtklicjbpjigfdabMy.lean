/- DERIVED. What Ends answers, in three numbers. -/
import Derived.Test.YtklicjbpjigfdabMem
import Derived.Test.YtklicjbpjigfdabSk
namespace Go.Proofs.Ytklicjbpjigfdab
open Go.RowKit

/-- What Ends answers, in three numbers. -/
def eLo (s : Sk) : Int := if wsum s.lv = 0 then 0 else s.lo
def eHi (s : Sk) : Int := if wsum s.lv = 0 then 0 else s.hi
def eEr (s : Sk) : Int := if wsum s.lv = 0 then 8 else 0
theorem ends_form (s : Sk) : (if wsum s.lv = 0 then Value.tuple #[.int .i64 0, .int .i64 0, .int .i64 8] else .tuple #[.int .i64 s.lo, .int .i64 s.hi, .int .i64 0]) = .tuple #[.int .i64 (eLo s), .int .i64 (eHi s), .int .i64 (eEr s)] := by
  unfold eLo eHi eEr
  split <;> rfl
theorem eEr_zero (s : Sk) : (eEr s == 8) = decide (wsum s.lv = 0) ∧ (eEr s == 0) = !decide (wsum s.lv = 0) := by
  unfold eEr
  split
  · next h => simp [h]
  · next h => simp [h]

end Go.Proofs.Ytklicjbpjigfdab
