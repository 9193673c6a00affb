/- DERIVED. Plain mathematics of the room: so often as a level was thinned, at least its capacity went up; the top level is no higher than the count allows; how many coins are used. -/
import Derived.Test.YtklicjbpjigfdabCameP
namespace Go.Proofs.Ytklicjbpjigfdab
open Go.RowKit

theorem capFrom_lo {k t3 t2 : Nat} : ∀ {f c c' : Nat}, c ≤ c' → c' < capFrom k t3 t2 f c → c' < k ∧ c' * t3 < k * t2 := by
  intro f
  induction f with
  | zero => intro c c' h h'; simp [capFrom] at h'; omega
  | succ f ih =>
    intro c c' h h'
    by_cases hs : c < k ∧ c * t3 < k * t2
    · rw [capFrom_step hs] at h'
      by_cases e : c = c'
      · subst e; exact hs
      · exact ih (by omega) h'
    · rw [capFrom_stop hs] at h'; omega
theorem capFrom_end {k t3 t2 : Nat} : ∀ {f c : Nat}, k ≤ c + f → ¬ (capFrom k t3 t2 f c < k ∧ capFrom k t3 t2 f c * t3 < k * t2) := by
  intro f
  induction f with
  | zero => intro c h; simp [capFrom]; omega
  | succ f ih =>
    intro c h
    by_cases hs : c < k ∧ c * t3 < k * t2
    · rw [capFrom_step hs]; exact ih (by omega)
    · rw [capFrom_stop hs]; exact hs
theorem capOf_succ (k d : Nat) : capOf k (d + 1) ≤ capOf k d := by
  apply Nat.le_of_not_lt
  intro hlt
  have h1 := capFrom_lo (capOf_ge k d) (show capOf k d < capFrom k (3 ^ (d + 1)) (2 ^ (d + 1)) k 2 from hlt)
  have h2 := capFrom_end (k := k) (t3 := 3 ^ d) (t2 := 2 ^ d) (f := k) (c := 2) (by omega)
  change ¬ (capOf k d < k ∧ capOf k d * 3 ^ d < k * 2 ^ d) at h2
  apply h2
  refine ⟨h1.1, ?_⟩
  have h3 := h1.2
  rw [Nat.pow_succ, Nat.pow_succ, ← Nat.mul_assoc, ← Nat.mul_assoc] at h3
  generalize capOf k d * 3 ^ d = a at *
  generalize k * 2 ^ d = b at *
  omega
theorem capOf_anti {k d e : Nat} (h : d ≤ e) : capOf k e ≤ capOf k d := by
  induction e with
  | zero => have : d = 0 := by omega
            subst this; exact Nat.le_refl _
  | succ e ih =>
    by_cases he : d = e + 1
    · subst he; exact Nat.le_refl _
    · exact Nat.le_trans (capOf_succ k e) (ih (by omega))

/-- Of each level: so often as it was thinned, at least its capacity went up. -/
def Roomy (k : Nat) : List Lvl → Prop
  | [] => True
  | l :: L => l.times * capOf k L.length ≤ 2 * wsum L ∧ Roomy k L

theorem Roomy.snoc {k : Nat} : ∀ {L : List Lvl}, Roomy k L → Roomy k (L ++ [Lvl.none])
  | [], _ => ⟨by simp [Lvl.none], trivial⟩
  | l :: L, h => ⟨by show l.times * capOf k (L ++ [Lvl.none]).length ≤ 2 * wsum (L ++ [Lvl.none]); rw [wsum_snoc]; exact Nat.le_trans (Nat.mul_le_mul_left _ (capOf_anti (by simp))) h.1, h.2.snoc⟩
theorem setItems_wsum_ge {L : List Lvl} {h : Nat} {X : List Int} (hX : (L.getD h Lvl.none).items.length ≤ X.length) : wsum L ≤ wsum (setItems L h X) := by
  by_cases hh : h < L.length
  · have := setItems_wsum (X := X) hh
    have := Nat.mul_le_mul_left (2 ^ h) hX
    omega
  · rw [show setItems L h X = L from List.set_eq_of_length_le (by omega)]; exact Nat.le_refl _
theorem Roomy.setItems {k : Nat} {X : List Int} : ∀ {L : List Lvl} {h : Nat}, (L.getD h Lvl.none).items.length ≤ X.length → Roomy k L → Roomy k (setItems L h X)
  | [], _, _, _ => by simp [Go.Proofs.Ytklicjbpjigfdab.setItems, Roomy]
  | l :: L, 0, _, h => by simpa [Go.Proofs.Ytklicjbpjigfdab.setItems, Roomy] using h
  | l :: L, j + 1, hX, h => by
    have hX' : (L.getD j Lvl.none).items.length ≤ X.length := by simpa using hX
    have e : Go.Proofs.Ytklicjbpjigfdab.setItems (l :: L) (j + 1) X = l :: Go.Proofs.Ytklicjbpjigfdab.setItems L j X := by simp [Go.Proofs.Ytklicjbpjigfdab.setItems]
    rw [e]
    refine ⟨?_, h.2.setItems hX'⟩
    rw [setItems_length]
    have := setItems_wsum_ge hX'
    have := h.1
    omega
theorem Roomy.with {k : Nat} {x : Int} : ∀ {f w j : Nat} {L : List Lvl}, Roomy k L → Roomy k (withFrom x f w j L) := by
  intro f
  induction f with
  | zero => intro w j L h; exact h
  | succ f ih =>
    intro w j L h
    by_cases h0 : w = 0
    · subst h0; rw [withFrom_zero]; exact h
    · rw [withFrom_step (by omega)]
      refine ih ?_
      have h1 : Roomy k (at1 L j) := by
        unfold at1; split
        · exact h.snoc
        · exact h
      unfold bit1; split
      · exact h1.setItems (by rw [jn_length]; omega)
      · exact h1

theorem grow1_cons (l : Lvl) (L : List Lvl) (h : Nat) : grow1 (l :: L) (h + 1) = l :: grow1 L h := by
  unfold grow1
  by_cases e : h + 1 = L.length
  · rw [if_pos e, if_pos (by simp; omega)]; rfl
  · rw [if_neg e, if_neg (by simp; omega)]
theorem thinL_succ (l : Lvl) (L : List Lvl) (h : Nat) (c : Bool) : thinL (l :: L) (h + 1) c = l :: thinL L h c := by
  simp only [thinL, grow1_cons, setItems, setTimes, List.getD_cons_succ, List.set_cons_succ]
theorem thinL_one (l : Lvl) (c : Bool) : thinL [l] 0 c = [⟨l.items.take (l.items.length % 2), l.times + 1⟩, ⟨jn [] (upOf l.items c), 0⟩] := by
  simp [thinL, grow1, setItems, setTimes, Lvl.none]
theorem thinL_two (l m : Lvl) (L : List Lvl) (c : Bool) : thinL (l :: m :: L) 0 c = ⟨l.items.take (l.items.length % 2), l.times + 1⟩ :: ⟨jn m.items (upOf l.items c), m.times⟩ :: L := by
  simp [thinL, grow1, setItems, setTimes]
theorem roomy_up {t c c' n a b : Nat} (h : t * c ≤ 2 * a) (hc : c' ≤ c) (hn : c < n) (hb : b = a + n / 2) : (t + 1) * c' ≤ 2 * b := by
  have h1 : (t + 1) * c' ≤ (t + 1) * c := Nat.mul_le_mul_left _ hc
  have h2 : (t + 1) * c = t * c + c := Nat.succ_mul t c
  omega
theorem Roomy.thin {k : Nat} {c : Bool} : ∀ {L : List Lvl} {h : Nat}, h < L.length → capOf k (L.length - 1 - h) < (L.getD h Lvl.none).items.length → Roomy k L → Roomy k (thinL L h c)
  | [], _, hh, _, _ => by simp at hh
  | [l], 0, _, hc, h => by
    rw [thinL_one]
    refine ⟨roomy_up h.1 (capOf_anti (Nat.zero_le _)) (show capOf k 0 < l.items.length by simpa using hc) ?_, ⟨by simp, trivial⟩⟩
    simp [wsum, jn_length, upOf_length]
  | l :: m :: L, 0, _, hc, h => by
    rw [thinL_two]
    refine ⟨roomy_up h.1 (Nat.le_refl _) (show capOf k (L.length + 1) < l.items.length by simpa using hc) ?_, h.2⟩
    simp only [wsum, jn_length, upOf_length]
    omega
  | l :: L, j + 1, hh, hc, h => by
    have hj : j < L.length := by simpa using hh
    rw [thinL_succ]
    refine ⟨?_, h.2.thin hj (by simp only [List.length_cons, List.getD_cons_succ] at hc; rw [show L.length - 1 - j = L.length + 1 - 1 - (j + 1) by omega]; exact hc)⟩
    rw [thinL_wsum hj]
    exact Nat.le_trans (Nat.mul_le_mul_left _ (capOf_anti (thinL_length_ge L j c))) h.1
theorem Roomy.settle {k : Nat} : ∀ {cs : List Bool} {u : Nat} {L L' : List Lvl} {u' : Nat}, Roomy k L → settle k cs u L = some (L', u') → Roomy k L' := by
  intro cs
  induction cs with
  | nil => intro u L L' u' h hs; simp only [Go.Proofs.Ytklicjbpjigfdab.settle] at hs; split at hs <;> simp at hs; rw [← hs.1]; exact h
  | cons c cs ih =>
    intro u L L' u' h hs
    simp only [Go.Proofs.Ytklicjbpjigfdab.settle] at hs
    split at hs
    · simp at hs; rw [← hs.1]; exact h
    · rename_i r hr
      obtain ⟨h1, _, h3⟩ := toThinL_some hr
      exact ih (h.thin h1 h3) hs
theorem Roomy.at {k : Nat} : ∀ {L : List Lvl} {j : Nat}, j < L.length → Roomy k L → (L.getD j Lvl.none).times * capOf k (L.length - 1 - j) ≤ 2 * wsum (L.drop (j + 1))
  | [], _, hj, _ => by simp at hj
  | l :: L, 0, _, h => by simpa using h.1
  | l :: L, j + 1, hj, h => by
    have := h.2.at (j := j) (by simpa using hj)
    rw [show L.length - 1 - j = (l :: L).length - 1 - (j + 1) by simp; omega] at this
    simpa using this
theorem Roomy.ssum {k : Nat} : ∀ {L : List Lvl}, Roomy k L → ssum L + wsum L ≤ 2 ^ L.length * wsum L
  | [], _ => by simp [Go.Proofs.Ytklicjbpjigfdab.ssum, wsum]
  | l :: L, h => by
    have h1 := h.2.ssum
    have h2 : l.times ≤ wsum L := by
      have h3 := h.1
      have := Nat.mul_le_mul_left l.times (capOf_ge k L.length)
      omega
    have h4 : l.items.length ≤ 2 ^ (L.length + 1) * l.items.length := Nat.le_mul_of_pos_left _ (Nat.pow_pos (by decide))
    have h5 : 2 ^ (L.length + 1) * (l.items.length + 2 * wsum L) = 2 ^ (L.length + 1) * l.items.length + 4 * (2 ^ L.length * wsum L) := by
      rw [Nat.mul_add, Nat.pow_succ]
      rw [Nat.mul_assoc (2 ^ L.length) 2 (2 * wsum L), ← Nat.mul_assoc 2 2, Nat.mul_left_comm]
    simp only [Go.Proofs.Ytklicjbpjigfdab.ssum, wsum, List.length_cons]
    rw [h5]
    generalize 2 ^ L.length * wsum L = a at *
    omega

/-- The top level is no higher than the count allows. -/
def Tall (L : List Lvl) : Prop := L.length ≤ 1 ∨ 2 ^ (L.length - 1) ≤ wsum L
theorem with_tall {x : Int} : ∀ {f w h : Nat} {L : List Lvl}, h ≤ L.length → (withFrom x f w h L).length = L.length ∨ 2 ^ ((withFrom x f w h L).length - 1) ≤ 2 ^ h * w := by
  intro f
  induction f with
  | zero => intro w h L hh; exact .inl rfl
  | succ f ih =>
    intro w h L hh
    by_cases h0 : w = 0
    · subst h0; rw [withFrom_zero]; exact .inl rfl
    · rw [withFrom_step (by omega)]
      have hl : h < (at1 L h).length := by rw [at1_length]; split <;> omega
      rcases ih (w := w / 2) (h := h + 1) (L := bit1 x w (at1 L h) h) (by rw [bit1_length]; omega) with e | e
      · rw [e, bit1_length, at1_length]
        split
        · right
          rename_i e'
          rw [← e', Nat.add_sub_cancel]
          exact Nat.le_mul_of_pos_right _ (by omega)
        · exact .inl rfl
      · right
        refine Nat.le_trans e ?_
        rw [Nat.pow_succ, Nat.mul_assoc]
        exact Nat.mul_le_mul_left _ (by omega)
theorem Tall.settle {k : Nat} : ∀ {cs : List Bool} {u : Nat} {L L' : List Lvl} {u' : Nat}, Tall L → settle k cs u L = some (L', u') → Tall L' := by
  intro cs
  induction cs with
  | nil => intro u L L' u' h hs; simp only [Go.Proofs.Ytklicjbpjigfdab.settle] at hs; split at hs <;> simp at hs; rw [← hs.1]; exact h
  | cons c cs ih =>
    intro u L L' u' h hs
    simp only [Go.Proofs.Ytklicjbpjigfdab.settle] at hs
    split at hs
    · simp at hs; rw [← hs.1]; exact h
    · rename_i r hr
      obtain ⟨h1, h2, _⟩ := toThinL_some hr
      refine ih ?_ hs
      unfold Tall
      rw [thinL_wsum h1, thinL_length]
      split
      · right
        rename_i e
        rw [Nat.add_sub_cancel, ← e, Nat.pow_succ]
        have h3 := wsum_at h1
        have := Nat.mul_le_mul_left (2 ^ r) h2
        omega
      · exact h

/-- How many coins are used: as many as there are thinnings; no more than there are items too many. -/
theorem settle_tsum {k : Nat} : ∀ {cs : List Bool} {u : Nat} {L L' : List Lvl} {u' : Nat}, settle k cs u L = some (L', u') → tsum L' + u = tsum L + u' := by
  intro cs
  induction cs with
  | nil => intro u L L' u' hs; simp only [settle] at hs; split at hs <;> simp at hs; rw [← hs.1, ← hs.2]
  | cons c cs ih =>
    intro u L L' u' hs
    simp only [settle] at hs
    split at hs
    · simp at hs; rw [← hs.1, ← hs.2]
    · rename_i r hr
      have := ih hs
      have := thinL_tsum (c := c) (toThinL_some hr).1
      omega
theorem settle_few {k : Nat} : ∀ {cs : List Bool} {u m : Nat} {L L' : List Lvl} {u' : Nat}, nsum L ≤ capSum k L.length + m → settle k cs u L = some (L', u') → u' ≤ u + m := by
  intro cs
  induction cs with
  | nil => intro u m L L' u' _ hs; simp only [settle] at hs; split at hs <;> simp at hs; omega
  | cons c cs ih =>
    intro u m L L' u' hm hs
    simp only [settle] at hs
    split at hs
    · simp at hs; omega
    · rename_i r hr
      obtain ⟨h1, h2, _⟩ := toThinL_some hr
      have h3 := thinL_nsum (c := c) h1
      have h4 := capSum_mono (k := k) (thinL_length_ge L r c)
      have h5 : capSum k L.length < nsum L := by
        unfold toThinL at hr
        split at hr
        · cases hr
        · omega
      have := ih (m := m - 1) (by omega) hs
      omega

end Go.Proofs.Ytklicjbpjigfdab
