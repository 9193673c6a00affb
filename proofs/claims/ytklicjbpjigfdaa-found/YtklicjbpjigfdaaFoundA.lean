/- DERIVED. Plain mathematics: the items up to a number. -/
import Derived.Test.YtklicjbpjigfdaaQuantW
namespace Go.Proofs.Ytklicjbpjigfdaa
open Go.RowKit

/-- All items. -/
def itemsAll : List Lvl → List Int
  | [] => []
  | l :: L => l.items ++ itemsAll L
theorem mem_itemsAll {y : Int} : ∀ {L : List Lvl}, y ∈ itemsAll L ↔ ∃ j, j < L.length ∧ y ∈ (L.getD j Lvl.none).items
  | [] => by simp [itemsAll]
  | l :: L => by
    rw [itemsAll, List.mem_append, mem_itemsAll (L := L)]
    constructor
    · rintro (h | ⟨j, hj, h⟩)
      · exact ⟨0, by simp, by simpa using h⟩
      · exact ⟨j + 1, by simpa using hj, by simpa using h⟩
    · rintro ⟨j, hj, h⟩
      cases j with
      | zero => exact .inl (by simpa using h)
      | succ j => exact .inr ⟨j, by simpa using hj, by simpa using h⟩
theorem cnt_congr {p q : Int} {l : List Int} (h : ∀ z ∈ l, z ≤ p ↔ z ≤ q) : cnt p l = cnt q l := by
  unfold cnt
  refine List.countP_congr (fun z hz => ?_)
  have := h z hz
  simpa using this
theorem usum_congr {p q : Int} : ∀ {L : List Lvl}, (∀ z ∈ itemsAll L, z ≤ p ↔ z ≤ q) → usum p L = usum q L
  | [], _ => rfl
  | l :: L, h => by
    rw [usum, usum, cnt_congr (fun z hz => h z (by rw [itemsAll]; exact List.mem_append.2 (.inl hz))), usum_congr (L := L) (fun z hz => h z (by rw [itemsAll]; exact List.mem_append.2 (.inr hz)))]
theorem usum_none {q : Int} : ∀ {L : List Lvl}, (∀ z ∈ itemsAll L, q < z) → usum q L = 0
  | [], _ => rfl
  | l :: L, h => by
    rw [usum, cnt_zero (fun z hz => h z (by rw [itemsAll]; exact List.mem_append.2 (.inl hz))), usum_none (L := L) (fun z hz => h z (by rw [itemsAll]; exact List.mem_append.2 (.inr hz)))]
/-- The greatest of those that are at most q. -/
theorem exists_top (q : Int) : ∀ l : List Int, (∀ z ∈ l, q < z) ∨ ∃ y ∈ l, y ≤ q ∧ ∀ z ∈ l, z ≤ q → z ≤ y
  | [] => .inl (fun z hz => by simp at hz)
  | x :: l => by
    by_cases hx : x ≤ q
    · right
      rcases exists_top q l with h | ⟨y, hy, hq, hm⟩
      · refine ⟨x, by simp, hx, fun z hz hzq => ?_⟩
        rcases List.mem_cons.1 hz with rfl | hz
        · exact Int.le_refl _
        · have := h z hz; omega
      · by_cases hxy : x ≤ y
        · refine ⟨y, by simp [hy], hq, fun z hz hzq => ?_⟩
          rcases List.mem_cons.1 hz with rfl | hz
          · exact hxy
          · exact hm z hz hzq
        · refine ⟨x, by simp, hx, fun z hz hzq => ?_⟩
          rcases List.mem_cons.1 hz with rfl | hz
          · exact Int.le_refl _
          · have := hm z hz hzq; omega
    · rcases exists_top q l with h | ⟨y, hy, hq, hm⟩
      · left
        intro z hz
        rcases List.mem_cons.1 hz with rfl | hz
        · omega
        · exact h z hz
      · right
        refine ⟨y, by simp [hy], hq, fun z hz hzq => ?_⟩
        rcases List.mem_cons.1 hz with rfl | hz
        · exact absurd hzq hx
        · exact hm z hz hzq
/-- If no item below x will do, x - 1 will not. -/
theorem usum_below {L : List Lvl} {r : Nat} {x : Int} (hr : 1 ≤ r) (h : ∀ y, doneL L L.length y → y < x → usum y L < r) : usum (x - 1) L < r := by
  rcases exists_top (x - 1) (itemsAll L) with h0 | ⟨y, hy, hq, hm⟩
  · rw [usum_none h0]; omega
  · have e : usum (x - 1) L = usum y L := usum_congr (fun z hz => ⟨fun hz1 => hm z hz hz1, fun hz1 => by omega⟩)
    rw [e]
    obtain ⟨j, hj, hm2⟩ := mem_itemsAll.1 hy
    exact h y ⟨j, hj, hm2⟩ (by omega)

end Go.Proofs.Ytklicjbpjigfdaa
