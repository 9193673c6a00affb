/- DERIVED. Plain mathematics of joining two lists in rising order: jn A B is what the program's 'joined' comes to. -/
namespace Go.Proofs.Ytklicjbpjigfdab

def jn : List Int → List Int → List Int
  | A, [] => A
  | A, x :: B => A.takeWhile (fun a => decide (a ≤ x)) ++ x :: jn (A.dropWhile (fun a => decide (a ≤ x))) B

theorem jn_nil (A : List Int) : jn A [] = A := rfl
theorem jn_le {a x : Int} {A B : List Int} (h : a ≤ x) : jn (a :: A) (x :: B) = a :: jn A (x :: B) := by
  simp [jn, h]
theorem jn_gt {a x : Int} {A B : List Int} (h : ¬ a ≤ x) : jn (a :: A) (x :: B) = x :: jn (a :: A) B := by
  simp [jn, h]
theorem jn_end {x : Int} {B : List Int} : jn [] (x :: B) = x :: jn [] B := by simp [jn]

theorem jn_length (B : List Int) : ∀ A, (jn A B).length = A.length + B.length := by
  induction B with
  | nil => intro A; simp [jn]
  | cons x B ih =>
    intro A
    simp only [jn, List.length_append, List.length_cons, ih]
    have := congrArg List.length (List.takeWhile_append_dropWhile (p := fun a => decide (a ≤ x)) (l := A))
    simp only [List.length_append] at this
    omega

theorem drop_at (A : List Int) (i : Nat) (h : i < A.length) : A.drop i = A[i] :: A.drop (i + 1) := List.drop_eq_getElem_cons h

/-- A step: an element of A goes first. -/
theorem step_a {A B xs J : List Int} {i t : Nat} (hi : i < A.length) (ht : t < B.length) (h : xs ++ jn (A.drop i) (B.drop t) = J) (hle : A[i] ≤ B[t]) : (xs ++ [A[i]]) ++ jn (A.drop (i + 1)) (B.drop t) = J := by
  rw [← h, drop_at A i hi, drop_at B t ht, jn_le hle]; simp
/-- A step: the element of B goes. -/
theorem step_b {A B xs J : List Int} {i t : Nat} (ht : t < B.length) (h : xs ++ jn (A.drop i) (B.drop t) = J) (hgt : ∀ hi : i < A.length, ¬ A[i] ≤ B[t]) : (xs ++ [B[t]]) ++ jn (A.drop i) (B.drop (t + 1)) = J := by
  rw [← h, drop_at B t ht]
  by_cases hi : i < A.length
  · rw [drop_at A i hi, jn_gt (hgt hi)]; simp
  · rw [List.drop_eq_nil_of_le (by omega), jn_end]; simp
theorem step_end {A B xs J : List Int} {i t : Nat} (ht : B.length ≤ t) (h : xs ++ jn (A.drop i) (B.drop t) = J) : xs ++ A.drop i = J := by
  rw [← h, List.drop_eq_nil_of_le ht, jn_nil]

end Go.Proofs.Ytklicjbpjigfdab
