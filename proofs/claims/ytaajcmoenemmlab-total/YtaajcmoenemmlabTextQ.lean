/- DERIVED. Plain mathematics of texts: which are a sketch's; a text with one byte changed, one missing, one more is none. -/
import Derived.Test.YtaajcmoenemmlabTextP
namespace Go.Proofs.Ytaajcmoenemmlab

/-- Has enough gone up for each level to have been thinned so often? -/
def timesB (k n : Nat) : Nat → List Lvl → Bool
  | _, [] => true
  | h, l :: L => decide (l.times * 2 ^ h * capOf k (n - 1 - h) ≤ 2 ^ (h + 1) * wsum L) && timesB k n (h + 1) L
def risesB : List Int → Bool
  | [] => true
  | [_] => true
  | x :: y :: r => decide (x ≤ y) && risesB (y :: r)
def lvB (lo hi : Int) (l : Lvl) : Bool := l.items.all (fun x => decide (lo ≤ x) && decide (x ≤ hi)) && risesB l.items
def hasIt (x : Int) (L : List Lvl) : Bool := L.any fun l => l.items.any fun y => y == x
def thinnedB (L : List Lvl) : Bool := L.any fun l => decide (0 < l.times)
def shapeB (s : Sk) : Bool := decide (2 ≤ s.k ∧ s.k ≤ 64 ∧ 1 ≤ s.lv.length ∧ s.lv.length ≤ 29 ∧ (1 < s.lv.length → 0 < (s.lv.getD (s.lv.length - 1) Lvl.none).items.length) ∧ nsum s.lv ≤ capSum s.k s.lv.length ∧ wsum s.lv ≤ 268435456)
def endsOK (s : Sk) : Bool := decide (nsum s.lv = 0) || thinnedB s.lv || (hasIt s.lo s.lv && hasIt s.hi s.lv)
/-- Is it as a sketch must be? -/
def soundB (s : Sk) : Bool := shapeB s && (timesB s.k s.lv.length 0 s.lv && (s.lv.all (lvB s.lo s.hi) && endsOK s))
/-- Is it a sketch's text? -/
def isText (t : List Nat) : Bool := soundB (toldS t) && decide (writeB (toldS t) = t)

theorem ckA_sum : ∀ (b : List Nat) (a : Nat), a < 256 → ckA b a = (a + b.sum) % 256
  | [], a, h => by simp [ckA]; omega
  | x :: b, a, h => by
    rw [ckA, ckA_sum b _ (Nat.mod_lt _ (by decide)), List.sum_cons]
    omega
theorem ckA_lt (b : List Nat) : ckA b 0 < 256 := by rw [ckA_sum _ _ (by decide)]; omega
theorem ckB_lt : ∀ (b : List Nat) (a c : Nat), c < 256 → ckB b a c < 256
  | [], a, c, h => h
  | x :: b, a, c, h => by rw [ckB]; exact ckB_lt b _ _ (Nat.mod_lt _ (by decide))
theorem writeB_eq (s : Sk) : writeB s = bodyB s ++ [ckA (bodyB s) 0, ckB (bodyB s) 0 0] := by
  have h1 := ckA_lt (bodyB s)
  have h2 := ckB_lt (bodyB s) 0 0 (by decide)
  simp [writeB, leB, Nat.mod_eq_of_lt h1, Nat.mod_eq_of_lt h2]
theorem hdrB_lt : ∀ (L : List Lvl), ∀ x ∈ hdrB L, x < 256
  | [], x, h => by simp [hdrB] at h
  | l :: L, x, h => by
    simp only [hdrB, List.mem_append] at h
    rcases h with h | h | h
    · exact leB_lt _ _ x h
    · exact leB_lt _ _ x h
    · exact hdrB_lt L x h
theorem numsB_lt : ∀ (l : List Int), ∀ x ∈ numsB l, x < 256
  | [], x, h => by simp [numsB] at h
  | y :: l, x, h => by
    simp only [numsB, List.mem_append] at h
    rcases h with h | h
    · exact leB_lt _ _ x h
    · exact numsB_lt l x h
theorem itemsB_lt : ∀ (L : List Lvl), ∀ x ∈ itemsB L, x < 256
  | [], x, h => by simp [itemsB] at h
  | l :: L, x, h => by
    simp only [itemsB, List.mem_append] at h
    rcases h with h | h
    · exact numsB_lt _ x h
    · exact itemsB_lt L x h
theorem bodyB_lt (s : Sk) : ∀ x ∈ bodyB s, x < 256 := by
  intro x h
  simp only [bodyB, List.mem_append] at h
  rcases h with h | h | h | h | h | h
  · simp at h; omega
  · exact leB_lt _ _ x h
  · exact leB_lt _ _ x h
  · exact hdrB_lt _ x h
  · unfold endsB at h
    split at h
    · simp at h
    · rw [List.mem_append] at h
      rcases h with h | h <;> exact leB_lt _ _ x h
  · exact itemsB_lt _ x h
theorem writeB_lt (s : Sk) : ∀ x ∈ writeB s, x < 256 := by
  intro x h
  simp only [writeB, List.mem_append] at h
  rcases h with h | h | h
  · exact bodyB_lt s x h
  · exact leB_lt _ _ x h
  · exact leB_lt _ _ x h
theorem writeB_length (s : Sk) : (writeB s).length = (bodyB s).length + 2 := by simp [writeB_eq]
theorem bodyB_length (s : Sk) : (bodyB s).length = 4 + 5 * s.lv.length + (if wsum s.lv = 0 then 0 else 16) + 8 * nsum s.lv := by
  simp only [bodyB, List.length_append, leB_length, hdrB_length, itemsB_length, endsB]
  split <;> simp [leB_length] <;> omega

/-- A text of a sketch that begins another's is that one. -/
theorem write_prefix {s s' : Sk} (h : SkFits s) (h' : SkFits s') {r : List Nat} (e : writeB s' ++ r = writeB s) : r = [] := by
  have e1 : toldS (writeB s' ++ r) = s' := by rw [writeB, List.append_assoc]; exact told_body h' _
  rw [e, told_write h] at e1
  subst e1
  have := congrArg List.length e
  rw [List.length_append] at this
  exact List.eq_nil_of_length_eq_zero (by omega)

theorem sum_set : ∀ (b : List Nat) (i y : Nat), i < b.length → (b.set i y).sum + b.getD i 0 = b.sum + y
  | [], i, y, h => by simp at h
  | x :: b, 0, y, h => by simp [List.sum_cons]; omega
  | x :: b, i + 1, y, h => by
    have := sum_set b i y (by simpa using h)
    simp only [List.set_cons_succ, List.sum_cons, List.getD_cons_succ]; omega

/-- A text of a sketch with one byte changed is no sketch's. -/
theorem write_changed {s s' : Sk} {i y : Nat} (hi : i < (writeB s).length) (hy : y < 256) (hne : y ≠ (writeB s).getD i 0) (e : writeB s' = (writeB s).set i y) : False := by
  have hl : (bodyB s').length = (bodyB s).length := by
    have := congrArg List.length e
    rw [List.length_set, writeB_length, writeB_length] at this
    omega
  by_cases hb : i < (bodyB s).length
  · have e2 : (writeB s).set i y = (bodyB s).set i y ++ [ckA (bodyB s) 0, ckB (bodyB s) 0 0] := by
      rw [writeB_eq, List.set_append_left _ _ hb]
    rw [e2, writeB_eq] at e
    obtain ⟨h1, h2⟩ := List.append_inj e (by rw [List.length_set]; exact hl)
    have h3 : ckA (bodyB s') 0 = ckA (bodyB s) 0 := by simpa using (List.cons_eq_cons.1 h2).1
    rw [h1, ckA_sum _ _ (by decide), ckA_sum _ _ (by decide)] at h3
    have h4 := sum_set (bodyB s) i y hb
    have h5 : (bodyB s).getD i 0 < 256 := by
      rw [List.getD_eq_getElem?_getD, List.getElem?_eq_getElem hb]
      exact bodyB_lt s _ (List.getElem_mem hb)
    have h6 : (writeB s).getD i 0 = (bodyB s).getD i 0 := by
      rw [writeB_eq, List.getD_eq_getElem?_getD, List.getD_eq_getElem?_getD, List.getElem?_append_left hb]
    rw [h6] at hne
    omega
  · have e2 : (writeB s).set i y = bodyB s ++ ([ckA (bodyB s) 0, ckB (bodyB s) 0 0].set (i - (bodyB s).length) y) := by
      rw [writeB_eq, List.set_append_right _ _ (by omega)]
    rw [e2, writeB_eq] at e
    obtain ⟨h1, h2⟩ := List.append_inj e hl
    rw [h1] at h2
    have h3 : [ckA (bodyB s) 0, ckB (bodyB s) 0 0].getD (i - (bodyB s).length) 0 = y := by
      rw [h2, List.getD_eq_getElem?_getD, List.getElem?_set_self (by rw [writeB_length] at hi; simp; omega)]; rfl
    apply hne
    rw [writeB_eq, List.getD_eq_getElem?_getD, List.getElem?_append_right (by omega), ← List.getD_eq_getElem?_getD, h3]

/-- The three of them, as texts that are read. -/
theorem isText_fits {t : List Nat} (hb : ∀ x ∈ t, x < 256) (h : isText t = true) : SkFits (toldS t) ∧ writeB (toldS t) = t := by
  simp only [isText, Bool.and_eq_true, decide_eq_true_eq] at h
  exact ⟨toldS_fits hb, h.2⟩
theorem not_changed {s : Sk} {i y : Nat} (hi : i < (writeB s).length) (hy : y < 256) (hne : y ≠ (writeB s).getD i 0) : isText ((writeB s).set i y) = false := by
  cases h : isText ((writeB s).set i y) with
  | false => rfl
  | true =>
    simp only [isText, Bool.and_eq_true, decide_eq_true_eq] at h
    exact (write_changed hi hy hne h.2).elim
theorem not_cut {s : Sk} (h : SkFits s) : isText ((writeB s).take ((writeB s).length - 1)) = false := by
  cases h' : isText ((writeB s).take ((writeB s).length - 1)) with
  | false => rfl
  | true =>
    obtain ⟨h1, h2⟩ := isText_fits (fun x hx => writeB_lt s x (mem_take hx)) h'
    have hl := writeB_length s
    have := write_prefix h h1 (r := (writeB s).drop ((writeB s).length - 1)) (by rw [h2, List.take_append_drop])
    have := congrArg List.length this
    simp at this
    omega
theorem not_more {s : Sk} (h : SkFits s) {y : Nat} (hy : y < 256) : isText (writeB s ++ [y]) = false := by
  cases h' : isText (writeB s ++ [y]) with
  | false => rfl
  | true =>
    obtain ⟨h1, h2⟩ := isText_fits (fun x hx => by
      rw [List.mem_append] at hx
      rcases hx with hx | hx
      · exact writeB_lt s x hx
      · simp at hx; omega) h'
    have e : toldS (writeB s ++ [y]) = s := by rw [writeB, List.append_assoc]; exact told_body h _
    rw [e] at h2
    have := congrArg List.length h2
    simp at this
theorem is_text {s : Sk} (h : SkFits s) (hs : soundB s = true) : isText (writeB s) = true := by
  simp only [isText, told_write h, hs, decide_true, Bool.and_self]

end Go.Proofs.Ytaajcmoenemmlab
