/- DERIVED. Plain mathematics of thinning and settling: what is kept weighs what it weighed. -/
import Derived.Test.YtklicjbpjigfdabQ5
namespace Go.Proofs.Ytklicjbpjigfdab
open Go.RowKit
variable {F : Nat → Prop}

theorem setItems_wsum {L : List Lvl} {h : Nat} {X : List Int} (hh : h < L.length) : wsum (setItems L h X) + 2 ^ h * (L.getD h Lvl.none).items.length = wsum L + 2 ^ h * X.length := by
  induction L generalizing h with
  | nil => simp at hh
  | cons l L ih =>
    cases h with
    | zero => simp [setItems, wsum]; omega
    | succ h =>
      have := ih (h := h) (by simpa using hh)
      simp only [setItems, List.getD_cons_succ, List.set_cons_succ, wsum] at this ⊢
      rw [Nat.pow_succ, Nat.mul_right_comm, Nat.mul_right_comm (2 ^ h) 2]
      omega
theorem setTimes_wsum (L : List Lvl) (h t : Nat) : wsum (setTimes L h t) = wsum L := by
  induction L generalizing h with
  | nil => simp [setTimes]
  | cons l L ih =>
    cases h with
    | zero => simp [setTimes, wsum]
    | succ h =>
      have := ih h
      simp only [setTimes, List.getD_cons_succ, List.set_cons_succ, wsum] at this ⊢
      omega
theorem wsum_snoc (L : List Lvl) : wsum (L ++ [Lvl.none]) = wsum L := by
  induction L with
  | nil => rfl
  | cons l L ih => simp only [List.cons_append, wsum, ih]
theorem grow1_wsum (L : List Lvl) (h : Nat) : wsum (grow1 L h) = wsum L := by
  unfold grow1; split
  · exact wsum_snoc L
  · rfl
theorem grow1_length {L : List Lvl} {h : Nat} : (grow1 L h).length = if h + 1 = L.length then L.length + 1 else L.length := by
  unfold grow1; split <;> simp
theorem upOf_length (its : List Int) (c : Bool) : (upOf its c).length = its.length / 2 := by
  unfold upOf
  rw [evens_length, List.length_drop]
  cases c
  · simp; omega
  · simp; omega
theorem thinL_length {L : List Lvl} {h : Nat} {c : Bool} : (thinL L h c).length = if h + 1 = L.length then L.length + 1 else L.length := by
  unfold thinL
  simp only [setItems_length, setTimes_length, grow1_length]
theorem wsum_at {L : List Lvl} {h : Nat} (hh : h < L.length) : 2 ^ h * (L.getD h Lvl.none).items.length ≤ wsum L := by
  induction L generalizing h with
  | nil => simp at hh
  | cons l L ih =>
    cases h with
    | zero => simp [wsum]
    | succ h =>
      have := ih (h := h) (by simpa using hh)
      simp only [wsum, List.getD_cons_succ]
      rw [Nat.pow_succ, Nat.mul_right_comm]
      omega

theorem thinL_wsum {L : List Lvl} {h : Nat} {c : Bool} (hh : h < L.length) : wsum (thinL L h c) = wsum L := by
  have hl : h + 1 < (grow1 L h).length := by rw [grow1_length]; split <;> omega
  have hg : (grow1 L h).getD h Lvl.none = L.getD h Lvl.none := grow1_at hh
  unfold thinL
  simp only []
  generalize hits : (L.getD h Lvl.none).items = its at *
  have e0 := grow1_wsum L h
  generalize grow1 L h = L1 at *
  have e1 := setItems_wsum (L := L1) (h := h) (X := its.take (its.length % 2)) (by omega)
  rw [hg, hits] at e1
  have l2 : (setItems L1 h (its.take (its.length % 2))).length = L1.length := setItems_length _ _ _
  generalize setItems L1 h (its.take (its.length % 2)) = L2 at *
  have e2 := setTimes_wsum L2 h ((L2.getD h Lvl.none).times + 1)
  have l3 : (setTimes L2 h ((L2.getD h Lvl.none).times + 1)).length = L2.length := setTimes_length _ _ _
  generalize setTimes L2 h ((L2.getD h Lvl.none).times + 1) = L3 at *
  have e3 := setItems_wsum (L := L3) (h := h + 1) (X := jn (L3.getD (h + 1) Lvl.none).items (upOf its c)) (by omega)
  rw [jn_length, upOf_length, Nat.mul_add, List.length_take] at *
  have e4 : 2 ^ (h + 1) * (its.length / 2) + 2 ^ h * (its.length % 2) = 2 ^ h * its.length := by
    rw [Nat.pow_succ, Nat.mul_assoc, ← Nat.mul_add, Nat.div_add_mod]
  have e5 : min (its.length % 2) its.length = its.length % 2 := Nat.min_eq_left (Nat.mod_le _ _)
  rw [e5] at e1
  omega

theorem setItems_getD {L : List Lvl} {h : Nat} {X : List Int} (hh : h < L.length) : ((setItems L h X).getD h Lvl.none).items = X := by simp [setItems, List.getD, hh]

theorem thinL_times {L : List Lvl} {h j : Nat} {c : Bool} (hh : h < L.length) : ((thinL L h c).getD j Lvl.none).times = (L.getD j Lvl.none).times + (if j = h then 1 else 0) := by
  have hl : h + 1 < (grow1 L h).length := by rw [grow1_length]; split <;> omega
  have hg : ∀ j, ((grow1 L h).getD j Lvl.none).times = (L.getD j Lvl.none).times := by
    intro j
    by_cases hj : j < L.length
    · rw [grow1_at hj]
    · unfold grow1
      split
      · by_cases e : j = L.length
        · subst e; simp [List.getD, Lvl.none]
        · simp [List.getD, hj]; rw [List.getElem?_eq_none (by simp; omega)]; rfl
      · rfl
  unfold thinL
  simp only []
  rw [setItems_times]
  by_cases e : j = h
  · subst e
    have : ((setTimes (setItems (grow1 L j) j ((L.getD j Lvl.none).items.take ((L.getD j Lvl.none).items.length % 2))) j (((setItems (grow1 L j) j ((L.getD j Lvl.none).items.take ((L.getD j Lvl.none).items.length % 2))).getD j Lvl.none).times + 1)).getD j Lvl.none).times = ((setItems (grow1 L j) j ((L.getD j Lvl.none).items.take ((L.getD j Lvl.none).items.length % 2))).getD j Lvl.none).times + 1 := by
      simp only [setTimes, List.getD]
      rw [List.getElem?_set_self (by rw [setItems_length]; omega)]
      rfl
    rw [this, setItems_times, hg]; simp
  · have : ∀ M t, ((setTimes M h t).getD j Lvl.none) = M.getD j Lvl.none := by
      intro M t; simp [setTimes, List.getD, Ne.symm e]
    rw [this, setItems_times, hg]; simp [e]

/-- The level to be thinned, of levels alone. -/
def toThinL (k : Nat) (L : List Lvl) : Option Nat := if nsum L ≤ capSum k L.length then Option.none else crowd k L.length 0 L
theorem toThin_eq (k : Nat) (L : List Lvl) (lo hi : Int) : Sk.toThin ⟨k, L, lo, hi⟩ = toThinL k L := rfl

theorem crowd_some {k n : Nat} : ∀ {h : Nat} {L : List Lvl} {r : Nat}, crowd k n h L = some r → h ≤ r ∧ r < h + L.length ∧ capOf k (n - 1 - r) < (L.getD (r - h) Lvl.none).items.length := by
  intro h L
  induction L generalizing h with
  | nil => intro r hr; simp [crowd] at hr
  | cons l L ih =>
    intro r hr
    rw [crowd] at hr
    split at hr
    · cases hr
      refine ⟨Nat.le_refl _, by simp, ?_⟩
      simpa using ‹_›
    · obtain ⟨h1, h2, h3⟩ := ih hr
      refine ⟨by omega, by simp; omega, ?_⟩
      rw [show r - h = (r - (h + 1)) + 1 by omega]
      simpa using h3
theorem toThinL_some {k : Nat} {L : List Lvl} {r : Nat} (h : toThinL k L = some r) : r < L.length ∧ 3 ≤ (L.getD r Lvl.none).items.length ∧ capOf k (L.length - 1 - r) < (L.getD r Lvl.none).items.length := by
  unfold toThinL at h
  split at h
  · cases h
  · obtain ⟨_, h2, h3⟩ := crowd_some h
    have := capOf_ge k (L.length - 1 - r)
    simp at h2 h3
    exact ⟨h2, by simp; omega, by simpa using h3⟩

/-- Settled by the first of the coins: the levels, and how many coins were used; none: too few. -/
def settle (k : Nat) : List Bool → Nat → List Lvl → Option (List Lvl × Nat)
  | [], u, L => match toThinL k L with
    | Option.none => some (L, u)
    | some _ => Option.none
  | c :: cs, u, L => match toThinL k L with
    | Option.none => some (L, u)
    | some h => settle k cs (u + 1) (thinL L h c)

theorem settle_done {k : Nat} {cs : List Bool} {u : Nat} {L : List Lvl} (h : toThinL k L = Option.none) : settle k cs u L = some (L, u) := by
  cases cs <;> simp [settle, h]
theorem settle_short {k u : Nat} {L : List Lvl} {h : Nat} (hh : toThinL k L = some h) : settle k [] u L = Option.none := by simp [settle, hh]
theorem settle_step {k u : Nat} {L : List Lvl} {h : Nat} {c : Bool} {cs : List Bool} (hh : toThinL k L = some h) : settle k (c :: cs) u L = settle k cs (u + 1) (thinL L h c) := by simp [settle, hh]

/-- A thinning makes no level too many: what is thinned weighs at least 3 times 2^h. -/
theorem thinL_len {L : List Lvl} {h k : Nat} {c : Bool} (ht : toThinL k L = some h) (hw : wsum L ≤ 268435456) (hl : L.length ≤ 29) : (thinL L h c).length ≤ 29 := by
  obtain ⟨h1, h2, _⟩ := toThinL_some ht
  have h3 := wsum_at h1
  rw [thinL_length]
  split
  · rename_i e
    by_cases hb : h ≤ 27
    · omega
    · have hp : 2 ^ 28 ≤ 2 ^ h := pow2_le (by omega)
      have := Nat.mul_le_mul hp h2
      omega
  · exact hl

end Go.Proofs.Ytklicjbpjigfdab
