/- DERIVED. Plain mathematics of what comes in with a weight: weight, length, times. -/
import Derived.Test.YtklicjbpjigfdabNl
namespace Go.Proofs.Ytklicjbpjigfdab
open Go.RowKit

theorem at1_wsum (L : List Lvl) (h : Nat) : wsum (at1 L h) = wsum L := by
  unfold at1; split
  · exact wsum_snoc L
  · rfl
theorem at1_length {L : List Lvl} {h : Nat} : (at1 L h).length = if h = L.length then L.length + 1 else L.length := by
  unfold at1; split <;> simp
theorem at1_times {L : List Lvl} {h j : Nat} : ((at1 L h).getD j Lvl.none).times = (L.getD j Lvl.none).times := by
  unfold at1
  split
  · by_cases hj : j < L.length
    · simp [List.getD, List.getElem?_append, hj]
    · by_cases e : j = L.length
      · subst e; simp [List.getD, Lvl.none]
      · simp [List.getD, hj]; rw [List.getElem?_eq_none (by simp; omega)]; rfl
  · rfl
theorem bit1_times {x : Int} {w h j : Nat} {L : List Lvl} : ((bit1 x w L h).getD j Lvl.none).times = (L.getD j Lvl.none).times := by
  unfold bit1; split
  · exact setItems_times
  · rfl
theorem bit1_wsum {x : Int} {w h : Nat} {L : List Lvl} (hh : h < L.length) : wsum (bit1 x w L h) = wsum L + 2 ^ h * (w % 2) := by
  unfold bit1
  split
  · rename_i e
    have := setItems_wsum (X := jn (L.getD h Lvl.none).items [x]) hh
    rw [jn_length, Nat.mul_add] at this
    rw [e]
    simp at this ⊢
    omega
  · rename_i e
    have : w % 2 = 0 := by omega
    rw [this]; simp

theorem withFrom_wsum {x : Int} : ∀ {f w h : Nat} {L : List Lvl}, w < 2 ^ f → h ≤ L.length → wsum (withFrom x f w h L) = wsum L + 2 ^ h * w := by
  intro f
  induction f with
  | zero => intro w h L hw hh; simp at hw; subst hw; simp [withFrom]
  | succ f ih =>
    intro w h L hw hh
    by_cases h0 : w = 0
    · subst h0; rw [withFrom_zero]; simp
    · have hl : h < (at1 L h).length := by rw [at1_length]; split <;> omega
      rw [withFrom_step (by omega), ih (by rw [Nat.pow_succ] at hw; omega) (by rw [bit1_length]; omega), bit1_wsum hl, at1_wsum, Nat.pow_succ, Nat.add_assoc, Nat.mul_assoc, ← Nat.mul_add]
      congr 2
      omega
theorem withFrom_length {x : Int} : ∀ {f w h n : Nat} {L : List Lvl}, w < 2 ^ f → h ≤ L.length → L.length ≤ n → h + f ≤ n → (withFrom x f w h L).length ≤ n := by
  intro f
  induction f with
  | zero => intro w h n L hw hh hn hf; simpa [withFrom] using hn
  | succ f ih =>
    intro w h n L hw hh hn hf
    by_cases h0 : w = 0
    · subst h0; rw [withFrom_zero]; exact hn
    · have hl : h < (at1 L h).length := by rw [at1_length]; split <;> omega
      have hl2 : (at1 L h).length ≤ n := by rw [at1_length]; split <;> omega
      rw [withFrom_step (by omega)]
      exact ih (by rw [Nat.pow_succ] at hw; omega) (by rw [bit1_length]; omega) (by rw [bit1_length]; exact hl2) (by omega)
theorem withFrom_times {x : Int} : ∀ {f w h j : Nat} {L : List Lvl}, ((withFrom x f w h L).getD j Lvl.none).times = (L.getD j Lvl.none).times := by
  intro f
  induction f with
  | zero => intro w h j L; rfl
  | succ f ih =>
    intro w h j L
    by_cases h0 : w = 0
    · subst h0; rw [withFrom_zero]
    · rw [withFrom_step (by omega), ih, bit1_times, at1_times]

end Go.Proofs.Ytklicjbpjigfdab

/- DERIVED. Plain mathematics: how many coins settling wants. -/
namespace Go.Proofs.Ytklicjbpjigfdab
open Go.RowKit

theorem setTimes_nsum (L : List Lvl) (h t : Nat) : nsum (setTimes L h t) = nsum L := by
  induction L generalizing h with
  | nil => simp [setTimes]
  | cons l L ih =>
    cases h with
    | zero => simp [setTimes, nsum]
    | succ h =>
      have := ih h
      simp only [setTimes, List.getD_cons_succ, List.set_cons_succ, nsum] at this ⊢
      omega
theorem grow1_nsum (L : List Lvl) (h : Nat) : nsum (grow1 L h) = nsum L := by
  unfold grow1; split
  · exact nsum_snoc L
  · rfl
/-- A thinning of n items drops n / 2. -/
theorem thinL_nsum {L : List Lvl} {h : Nat} {c : Bool} (hh : h < L.length) : nsum (thinL L h c) + (L.getD h Lvl.none).items.length / 2 = nsum L := by
  have hl : h + 1 < (grow1 L h).length := by rw [grow1_length]; split <;> omega
  have hg : (grow1 L h).getD h Lvl.none = L.getD h Lvl.none := grow1_at hh
  unfold thinL
  simp only []
  generalize hits : (L.getD h Lvl.none).items = its at *
  have e0 := grow1_nsum L h
  generalize grow1 L h = L1 at *
  have e1 := setItems_nsum (L := L1) (h := h) (X := its.take (its.length % 2)) (by omega)
  rw [hg, hits] at e1
  have l2 : (setItems L1 h (its.take (its.length % 2))).length = L1.length := setItems_length _ _ _
  generalize setItems L1 h (its.take (its.length % 2)) = L2 at *
  have e2 := setTimes_nsum L2 h ((L2.getD h Lvl.none).times + 1)
  have l3 : (setTimes L2 h ((L2.getD h Lvl.none).times + 1)).length = L2.length := setTimes_length _ _ _
  generalize setTimes L2 h ((L2.getD h Lvl.none).times + 1) = L3 at *
  have e3 := setItems_nsum (L := L3) (h := h + 1) (X := jn (L3.getD (h + 1) Lvl.none).items (upOf its c)) (by omega)
  rw [jn_length, upOf_length] at e3
  rw [List.length_take] at e1
  have e5 : min (its.length % 2) its.length = its.length % 2 := Nat.min_eq_left (Nat.mod_le _ _)
  rw [e5] at e1
  omega

theorem capSum_mono {k m n : Nat} (h : m ≤ n) : capSum k m ≤ capSum k n := by
  induction n with
  | zero => have : m = 0 := by omega
            subst this; exact Nat.le_refl _
  | succ n ih =>
    by_cases e : m = n + 1
    · subst e; exact Nat.le_refl _
    · have := ih (by omega); simp only [capSum]; omega

theorem thinL_length_ge (L : List Lvl) (h : Nat) (c : Bool) : L.length ≤ (thinL L h c).length := by rw [thinL_length]; split <;> omega

/-- Whoever has too few coins has fewer than there are items too many. -/
theorem settle_none_bound {k : Nat} : ∀ {cs : List Bool} {u : Nat} {L : List Lvl}, settle k cs u L = Option.none → capSum k L.length + cs.length < nsum L := by
  intro cs
  induction cs with
  | nil =>
    intro u L h
    simp only [settle] at h
    split at h
    · simp at h
    · rename_i r hr
      unfold toThinL at hr
      split at hr
      · cases hr
      · simp; omega
  | cons c cs ih =>
    intro u L h
    simp only [settle] at h
    split at h
    · simp at h
    · rename_i r hr
      have h1 := ih h
      obtain ⟨h2, h3, _⟩ := toThinL_some hr
      have h4 := thinL_nsum (c := c) h2
      have h5 := capSum_mono (k := k) (thinL_length_ge L r c)
      simp only [List.length_cons]
      omega
/-- One coin more than too few is used up. -/
theorem settle_last {k : Nat} {c : Bool} : ∀ {cs : List Bool} {u : Nat} {L L' : List Lvl} {u' : Nat}, settle k cs u L = Option.none → settle k (cs ++ [c]) u L = some (L', u') → u' = u + cs.length + 1 := by
  intro cs
  induction cs with
  | nil =>
    intro u L L' u' h h2
    simp only [settle] at h
    split at h
    · simp at h
    · rename_i r hr
      simp only [List.nil_append] at h2
      rw [settle_step hr] at h2
      simp only [settle] at h2
      split at h2 <;> simp at h2
      simp; omega
  | cons a cs ih =>
    intro u L L' u' h h2
    simp only [settle] at h
    split at h
    · simp at h
    · rename_i r hr
      simp only [List.cons_append] at h2
      rw [settle_step hr] at h2
      have := ih h h2
      simp; omega

theorem withFrom_nsum {x : Int} : ∀ {f w h : Nat} {L : List Lvl}, h ≤ L.length → nsum (withFrom x f w h L) ≤ nsum L + f := by
  intro f
  induction f with
  | zero => intro w h L hh; simp [withFrom]
  | succ f ih =>
    intro w h L hh
    by_cases h0 : w = 0
    · subst h0; rw [withFrom_zero]; omega
    · have hl : h < (at1 L h).length := by rw [at1_length]; split <;> omega
      rw [withFrom_step (by omega)]
      have h1 := ih (w := w / 2) (h := h + 1) (L := bit1 x w (at1 L h) h) (by rw [bit1_length]; omega)
      have h2 := bit1_nsum (x := x) (w := w) hl
      rw [at1_nsum] at h2
      omega
theorem withFrom_length_ge {x : Int} : ∀ {f w h : Nat} {L : List Lvl}, h ≤ L.length → L.length ≤ (withFrom x f w h L).length := by
  intro f
  induction f with
  | zero => intro w h L hh; exact Nat.le_refl _
  | succ f ih =>
    intro w h L hh
    by_cases h0 : w = 0
    · subst h0; rw [withFrom_zero]; exact Nat.le_refl _
    · have hl : h < (at1 L h).length := by rw [at1_length]; split <;> omega
      have hl2 : L.length ≤ (at1 L h).length := by rw [at1_length]; split <;> omega
      rw [withFrom_step (by omega)]
      have := ih (w := w / 2) (h := h + 1) (L := bit1 x w (at1 L h) h) (by rw [bit1_length]; omega)
      rw [bit1_length] at this
      omega

end Go.Proofs.Ytklicjbpjigfdab
