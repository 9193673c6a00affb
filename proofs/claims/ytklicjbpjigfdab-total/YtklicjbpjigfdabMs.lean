/- DERIVED. Plain mathematics of what comes in with a weight: weight, length, times. -/
import Derived.Test.YtklicjbpjigfdabSetP
namespace Go.Proofs.Ytklicjbpjigfdab
open Go.RowKit

theorem at1_wsum (L : List Lvl) (h : Nat) : wsum (at1 L h) = wsum L := by
  unfold at1; split
  · exact wsum_snoc L
  · rfl
theorem at1_length {L : List Lvl} {h : Nat} : (at1 L h).length = if h = L.length then L.length + 1 else L.length := by
  unfold at1; split <;> simp
theorem at1_times {L : List Lvl} {h j : Nat} : ((at1 L h).getD j Lvl.none).times = (L.getD j Lvl.none).times := by
  unfold at1
  split
  · by_cases hj : j < L.length
    · simp [List.getD, List.getElem?_append, hj]
    · by_cases e : j = L.length
      · subst e; simp [List.getD, Lvl.none]
      · simp [List.getD, hj]; rw [List.getElem?_eq_none (by simp; omega)]; rfl
  · rfl
theorem bit1_times {x : Int} {w h j : Nat} {L : List Lvl} : ((bit1 x w L h).getD j Lvl.none).times = (L.getD j Lvl.none).times := by
  unfold bit1; split
  · exact setItems_times
  · rfl
theorem bit1_wsum {x : Int} {w h : Nat} {L : List Lvl} (hh : h < L.length) : wsum (bit1 x w L h) = wsum L + 2 ^ h * (w % 2) := by
  unfold bit1
  split
  · rename_i e
    have := setItems_wsum (X := jn (L.getD h Lvl.none).items [x]) hh
    rw [jn_length, Nat.mul_add] at this
    rw [e]
    simp at this ⊢
    omega
  · rename_i e
    have : w % 2 = 0 := by omega
    rw [this]; simp

theorem withFrom_wsum {x : Int} : ∀ {f w h : Nat} {L : List Lvl}, w < 2 ^ f → h ≤ L.length → wsum (withFrom x f w h L) = wsum L + 2 ^ h * w := by
  intro f
  induction f with
  | zero => intro w h L hw hh; simp at hw; subst hw; simp [withFrom]
  | succ f ih =>
    intro w h L hw hh
    by_cases h0 : w = 0
    · subst h0; rw [withFrom_zero]; simp
    · have hl : h < (at1 L h).length := by rw [at1_length]; split <;> omega
      rw [withFrom_step (by omega), ih (by rw [Nat.pow_succ] at hw; omega) (by rw [bit1_length]; omega), bit1_wsum hl, at1_wsum, Nat.pow_succ, Nat.add_assoc, Nat.mul_assoc, ← Nat.mul_add]
      congr 2
      omega
theorem withFrom_length {x : Int} : ∀ {f w h n : Nat} {L : List Lvl}, w < 2 ^ f → h ≤ L.length → L.length ≤ n → h + f ≤ n → (withFrom x f w h L).length ≤ n := by
  intro f
  induction f with
  | zero => intro w h n L hw hh hn hf; simpa [withFrom] using hn
  | succ f ih =>
    intro w h n L hw hh hn hf
    by_cases h0 : w = 0
    · subst h0; rw [withFrom_zero]; exact hn
    · have hl : h < (at1 L h).length := by rw [at1_length]; split <;> omega
      have hl2 : (at1 L h).length ≤ n := by rw [at1_length]; split <;> omega
      rw [withFrom_step (by omega)]
      exact ih (by rw [Nat.pow_succ] at hw; omega) (by rw [bit1_length]; omega) (by rw [bit1_length]; exact hl2) (by omega)
theorem withFrom_times {x : Int} : ∀ {f w h j : Nat} {L : List Lvl}, ((withFrom x f w h L).getD j Lvl.none).times = (L.getD j Lvl.none).times := by
  intro f
  induction f with
  | zero => intro w h j L; rfl
  | succ f ih =>
    intro w h j L
    by_cases h0 : w = 0
    · subst h0; rw [withFrom_zero]
    · rw [withFrom_step (by omega), ih, bit1_times, at1_times]

end Go.Proofs.Ytklicjbpjigfdab
