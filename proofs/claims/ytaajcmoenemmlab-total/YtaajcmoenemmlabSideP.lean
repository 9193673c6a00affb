/- DERIVED. What came into a sketch, as the statement's own text keeps it: plain mathematics. -/
namespace Go.Proofs.Ytaajcmoenemmlab

/-- What came in: each number once, with what it weighs. -/
structure Sd where
  xs : List Int
  ws : List Nat
  n : Nat
  k : Nat
  ones : Bool
  gone : Bool

/-- The place of x among the numbers from i on. -/
def findAt (x : Int) : Nat → List Int → Option Nat
  | _, [] => Option.none
  | i, y :: ys => if y = x then some i else findAt x (i + 1) ys
def putXs (s : Sd) (x : Int) : List Int := match findAt x 0 s.xs with
  | some _ => s.xs
  | Option.none => s.xs ++ [x]
def putWs (s : Sd) (x : Int) (w : Nat) : List Nat := match findAt x 0 s.xs with
  | some i => s.ws.set i (s.ws.getD i 0 + w)
  | Option.none => s.ws ++ [w]
def Sd.put (s : Sd) (x : Int) (w : Nat) : Sd := { s with xs := putXs s x, ws := putWs s x w, n := s.n + w }

theorem findAt_drop {x : Int} {l : List Int} {i : Nat} (h : i < l.length) : findAt x i (l.drop i) = if l.getD i 0 = x then some i else findAt x (i + 1) (l.drop (i + 1)) := by
  rw [List.drop_eq_getElem_cons h, findAt]; simp [List.getD, h]
theorem findAt_none {x : Int} : ∀ {l : List Int} {i : Nat}, findAt x i l = Option.none ↔ x ∉ l := by
  intro l
  induction l with
  | nil => intro i; simp [findAt]
  | cons y l ih =>
    intro i
    rw [findAt]
    split
    · rename_i e; simp [e]
    · rename_i e
      rw [ih]
      simp only [List.mem_cons, not_or]
      exact ⟨fun h => ⟨fun e' => e e'.symm, h⟩, fun h => h.2⟩
theorem findAt_some {x : Int} : ∀ {l : List Int} {i r : Nat}, findAt x i l = some r → i ≤ r ∧ r < i + l.length ∧ l.getD (r - i) 0 = x := by
  intro l
  induction l with
  | nil => intro i r h; simp [findAt] at h
  | cons y l ih =>
    intro i r h
    rw [findAt] at h
    split at h
    · cases h
      refine ⟨Nat.le_refl _, by simp, ?_⟩
      simpa using ‹_›
    · obtain ⟨h1, h2, h3⟩ := ih h
      refine ⟨by omega, by simp; omega, ?_⟩
      rw [show r - i = (r - (i + 1)) + 1 by omega]
      simpa using h3

/-- What of it weighs, where p holds. -/
def wFilter (p : Int → Bool) : List Int → List Nat → Nat
  | x :: xs, w :: ws => (if p x then w else 0) + wFilter p xs ws
  | _, _ => 0
def wAll : List Nat → Nat
  | [] => 0
  | w :: ws => w + wAll ws

theorem wFilter_le (p : Int → Bool) : ∀ (xs : List Int) (ws : List Nat), wFilter p xs ws ≤ wAll ws := by
  intro xs
  induction xs with
  | nil => intro ws; cases ws <;> simp [wFilter]
  | cons x xs ih =>
    intro ws
    cases ws with
    | nil => simp [wFilter]
    | cons w ws => have := ih ws; simp only [wFilter, wAll]; split <;> omega
theorem wFilter_drop (p : Int → Bool) {xs : List Int} {ws : List Nat} {i : Nat} (hx : i < xs.length) (hw : i < ws.length) : wFilter p (xs.drop i) (ws.drop i) = (if p (xs.getD i 0) then ws.getD i 0 else 0) + wFilter p (xs.drop (i + 1)) (ws.drop (i + 1)) := by
  rw [List.drop_eq_getElem_cons hx, List.drop_eq_getElem_cons hw, wFilter]; simp [List.getD, hx, hw]
theorem wFilter_end (p : Int → Bool) {xs : List Int} {ws : List Nat} {i : Nat} (hx : xs.length ≤ i) : wFilter p (xs.drop i) (ws.drop i) = 0 := by
  rw [List.drop_eq_nil_of_le hx, wFilter.eq_def]
theorem wFilter_none (p : Int → Bool) : ∀ (xs : List Int) (ws : List Nat), (∀ x ∈ xs, p x = false) → wFilter p xs ws = 0 := by
  intro xs
  induction xs with
  | nil => intro ws _; cases ws <;> simp [wFilter]
  | cons x xs ih =>
    intro ws h
    cases ws with
    | nil => simp [wFilter]
    | cons w ws => rw [wFilter, ih ws (fun y hy => h y (by simp [hy])), h x (by simp)]; simp
theorem wFilter_all (p : Int → Bool) : ∀ (xs : List Int) (ws : List Nat), xs.length = ws.length → (∀ x ∈ xs, p x = true) → wFilter p xs ws = wAll ws := by
  intro xs
  induction xs with
  | nil => intro ws h _; cases ws with | nil => rfl | cons => simp at h
  | cons x xs ih =>
    intro ws hl h
    cases ws with
    | nil => simp at hl
    | cons w ws => rw [wFilter, ih ws (by simpa using hl) (fun y hy => h y (by simp [hy])), h x (by simp), wAll]; simp
theorem wAll_at {ws : List Nat} {i : Nat} : ws.getD i 0 ≤ wAll ws := by
  induction ws generalizing i with
  | nil => simp
  | cons w ws ih =>
    cases i with
    | zero => simp [wAll]
    | succ i => have := ih (i := i); simp only [wAll, List.getD_cons_succ]; omega
theorem wAll_set {ws : List Nat} {i v : Nat} (h : i < ws.length) : wAll (ws.set i (ws.getD i 0 + v)) = wAll ws + v := by
  induction ws generalizing i with
  | nil => simp at h
  | cons w ws ih =>
    cases i with
    | zero => simp [wAll]; omega
    | succ i => have := ih (i := i) (by simpa using h); simp only [wAll, List.set_cons_succ, List.getD_cons_succ] at this ⊢; omega
theorem wAll_snoc (ws : List Nat) (v : Nat) : wAll (ws ++ [v]) = wAll ws + v := by
  induction ws with
  | nil => simp [wAll]
  | cons w ws ih => simp only [List.cons_append, wAll, ih]; omega
theorem wAll_len {ws : List Nat} (h : ∀ w ∈ ws, 1 ≤ w) : ws.length ≤ wAll ws := by
  induction ws with
  | nil => simp [wAll]
  | cons w ws ih => have := ih (fun v hv => h v (by simp [hv])); have := h w (by simp); simp only [wAll, List.length_cons]; omega

end Go.Proofs.Ytaajcmoenemmlab
