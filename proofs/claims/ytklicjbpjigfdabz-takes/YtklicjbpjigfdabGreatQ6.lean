/- DERIVED. A number with its weight comes into a bag; the times of what is put together. -/
import Derived.Test.YtklicjbpjigfdabGreatQ5
import Derived.Test.YtklicjbpjigfdabGreatQ3
namespace Go.Proofs.YtklicjbpjigfdabGreat

/-- The items of a number with a weight: one for each bit. -/
def addB (x : Int) : Nat → Nat → Nat → List (Int × Nat)
  | 0, _, _ => []
  | f + 1, w, h => if 0 < w then (if w % 2 = 1 then [(x, h)] else []) ++ addB x f (w / 2) (h + 1) else []
theorem at1_items (L : List Lvl) (h j : Nat) : ((at1 L h).getD j Lvl.none) = (L.getD j Lvl.none) := by
  unfold at1
  split
  · by_cases e : j < L.length
    · simp [List.getD, List.getElem?_append, e]
    · by_cases e2 : j = L.length
      · subst e2; simp [List.getD]
      · have : (L ++ [Lvl.none]).length ≤ j := by simp; omega
        simp [List.getD, List.getElem?_eq_none this, List.getElem?_eq_none (show L.length ≤ j by omega)]
  · rfl
theorem BagOf.at1 {bag : List (Int × Nat)} {L : List Lvl} (hB : BagOf bag L) (h : Nat) : BagOf bag (at1 L h) := fun j => by
  rw [at1_items]; exact hB j
theorem at1_length_lt {L : List Lvl} {h : Nat} (hh : h ≤ L.length) : h < (Go.Proofs.YtklicjbpjigfdabGreat.at1 L h).length := by
  unfold Go.Proofs.YtklicjbpjigfdabGreat.at1
  split
  · simp; omega
  · omega
theorem BagOf.bit {bag : List (Int × Nat)} {L : List Lvl} (hB : BagOf bag L) {h w : Nat} (hh : h < L.length) (x : Int) : BagOf (bag ++ (if w % 2 = 1 then [(x, h)] else [])) (bit1 x w L h) := by
  unfold bit1
  split
  · intro j
    rw [lvOf_append]
    by_cases e : h = j
    · subst e
      rw [setItems_getD hh]
      have e1 : lvOf [(x, h)] h = [x] := by simp [lvOf]
      rw [e1]
      exact ((hB h).append_right _).trans (jn_perm _ _).symm
    · rw [setItems_other e]
      have e1 : lvOf [(x, h)] j = [] := by simp [lvOf, e]
      rw [e1, List.append_nil]
      exact hB j
  · rw [List.append_nil]; exact hB
theorem BagOf.with_ {x : Int} : ∀ {f w h : Nat} {bag : List (Int × Nat)} {L : List Lvl}, BagOf bag L → h ≤ L.length → BagOf (bag ++ addB x f w h) (withFrom x f w h L)
  | 0, w, h, bag, L, hB, _ => by
    have e : withFrom x 0 w h L = L := by cases w <;> rfl
    rw [e, addB, List.append_nil]; exact hB
  | f + 1, w, h, bag, L, hB, hh => by
    rw [addB]
    by_cases hw : 0 < w
    · have hl := at1_length_lt hh
      rw [if_pos hw, withFrom_step hw, ← List.append_assoc]
      refine BagOf.with_ ((hB.at1 h).bit hl x) ?_
      rw [bit1_length]; omega
    · obtain rfl : w = 0 := by omega
      rw [if_neg hw, withFrom_zero, List.append_nil]; exact hB

/-- Times added up, level by level. -/
def addT : List Nat → List Nat → List Nat
  | a, [] => a
  | [], y :: b => y :: b
  | x :: a, y :: b => (x + y) :: addT a b
def timesN (L : List Lvl) : List Nat := L.map fun l => l.times
theorem addT_nil (a : List Nat) : addT a [] = a := by cases a <;> rfl
theorem nil_addT (b : List Nat) : addT [] b = b := by cases b <;> rfl
theorem mergeL_timesN : ∀ (L T : List Lvl), timesN (mergeL L T) = addT (timesN L) (timesN T)
  | L, [] => by rw [mergeL_nil]; exact (addT_nil _).symm
  | [], t :: T => by
    have ih := mergeL_timesN [] T
    rw [show timesN [] = [] from rfl, nil_addT] at ih ⊢
    show t.times :: timesN (mergeL [] T) = t.times :: timesN T
    rw [ih]
  | l :: L, t :: T => by
    show (l.times + t.times) :: timesN (mergeL L T) = (l.times + t.times) :: addT (timesN L) (timesN T)
    rw [mergeL_timesN L T]
theorem addT_zero : ∀ (a : List Nat) (n : Nat), addT a (List.replicate n 0) = a ++ List.replicate (n - a.length) 0
  | a, 0 => by rw [List.replicate_zero, addT_nil, Nat.zero_sub]; simp
  | [], n + 1 => by rw [nil_addT]; simp
  | x :: a, n + 1 => by
    rw [List.replicate_succ]
    show (x + 0) :: addT a (List.replicate n 0) = _
    rw [addT_zero a n]
    simp
/-- How many bits a weight has (at most f). -/
def bln : Nat → Nat → Nat
  | 0, _ => 0
  | f + 1, w => if 0 < w then 1 + bln f (w / 2) else 0
theorem timesN_length (L : List Lvl) : (timesN L).length = L.length := by simp [timesN]
theorem timesN_setItems (L : List Lvl) (h : Nat) (X : List Int) : timesN (setItems L h X) = timesN L := by
  refine List.ext_getElem (by simp [timesN, setItems]) (fun j h1 h2 => ?_)
  simp only [timesN, List.getElem_map]
  have hj : j < L.length := by simpa [timesN] using h2
  have := setItems_times (L := L) (h := h) (j := j) (X := X)
  have e1 : (setItems L h X).getD j Lvl.none = (setItems L h X)[j]'(by rw [setItems_length]; exact hj) := by simp [List.getD, setItems_length, hj]
  have e2 : L.getD j Lvl.none = L[j] := by simp [List.getD, hj]
  rw [e1, e2] at this
  exact this
theorem timesN_bit (x : Int) (w h : Nat) (L : List Lvl) : timesN (bit1 x w L h) = timesN L := by
  unfold bit1; split
  · exact timesN_setItems _ _ _
  · rfl
theorem timesN_at1 {L : List Lvl} {h : Nat} (hh : h ≤ L.length) : timesN (at1 L h) = timesN L ++ List.replicate (h + 1 - L.length) 0 := by
  unfold Go.Proofs.YtklicjbpjigfdabGreat.at1
  split
  · next e => rw [show h + 1 - L.length = 1 by omega]; simp [timesN, Lvl.none]
  · rw [show h + 1 - L.length = 0 by omega]; simp
theorem at1_len {L : List Lvl} {h : Nat} (hh : h ≤ L.length) : (at1 L h).length = L.length + (h + 1 - L.length) := by
  unfold Go.Proofs.YtklicjbpjigfdabGreat.at1
  split
  · simp; omega
  · omega
theorem withFrom_timesN {x : Int} : ∀ {f w h : Nat} {L : List Lvl}, h ≤ L.length → timesN (withFrom x f w h L) = timesN L ++ List.replicate (h + bln f w - L.length) 0
  | 0, w, h, L, hh => by
    have e : withFrom x 0 w h L = L := by cases w <;> rfl
    rw [e, bln, show h + 0 - L.length = 0 by omega]; simp
  | f + 1, w, h, L, hh => by
    rw [bln]
    by_cases hw : 0 < w
    · have hl := at1_len hh
      rw [if_pos hw, withFrom_step hw, withFrom_timesN (by rw [bit1_length]; omega), timesN_bit, timesN_at1 hh, bit1_length, hl, List.append_assoc, List.replicate_append_replicate]
      congr 2
      omega
    · obtain rfl : w = 0 := by omega
      rw [if_neg hw, withFrom_zero, show h + 0 - L.length = 0 by omega]; simp
/-- A number with a weight: the times are added up with as many zeros as the weight has bits. -/
theorem with_timesN {x : Int} {f w : Nat} {L : List Lvl} : timesN (withFrom x f w 0 L) = addT (timesN L) (List.replicate (bln f w) 0) := by
  rw [withFrom_timesN (Nat.zero_le _), addT_zero, timesN_length, Nat.zero_add]

end Go.Proofs.YtklicjbpjigfdabGreat

/- DERIVED. Settling a bag is settling its levels. -/
namespace Go.Proofs.YtklicjbpjigfdabGreat

/-- The lowest level, from h on, that has more items than its capacity. -/
def crowdF (k n : Nat) (bag : List (Int × Nat)) : Nat → Nat → Option Nat
  | _, 0 => Option.none
  | h, r + 1 => if capOf k (n - 1 - h) < (lvOf bag h).length then some h else crowdF k n bag (h + 1) r
def crowdB (k : Nat) (bag : List (Int × Nat)) (n : Nat) : Option Nat := if bag.length ≤ capSum k n then Option.none else crowdF k n bag 0 n
theorem crowdF_eq {k n : Nat} {bag : List (Int × Nat)} {L : List Lvl} (hB : BagOf bag L) : ∀ (r h : Nat), h + r = L.length → crowdF k n bag h r = crowd k n h (L.drop h)
  | 0, h, e => by rw [List.drop_eq_nil_of_le (by omega)]; rfl
  | r + 1, h, e => by
    rw [lv_drop L h (by omega), crowdF, crowd, (hB h).length_eq, crowdF_eq hB r (h + 1) (by omega)]
theorem crowdB_eq {k : Nat} {bag : List (Int × Nat)} {L : List Lvl} (hB : BagOf bag L) : crowdB k bag L.length = toThinL k L := by
  unfold crowdB toThinL
  rw [hB.nsum, crowdF_eq hB L.length 0 (by omega), List.drop_zero]
/-- The times where level h is thinned. -/
def thinT (T : List Nat) (h : Nat) : List Nat := (T.set h (T.getD h 0 + 1)) ++ (if h + 1 = T.length then [0] else [])
theorem thinL_timesN {c : Bool} : ∀ {L : List Lvl} {h : Nat}, h < L.length → timesN (thinL L h c) = thinT (timesN L) h
  | [], h, hh => by simp at hh
  | [l], 0, _ => by rw [thinL_one]; simp [timesN, thinT]
  | l :: m :: L, 0, _ => by rw [thinL_two]; simp [timesN, thinT]
  | l :: L, h + 1, hh => by
    rw [thinL_succ]
    have := thinL_timesN (c := c) (L := L) (h := h) (by simpa using hh)
    show l.times :: timesN (thinL L h c) = thinT (l.times :: timesN L) (h + 1)
    rw [this]
    simp [thinT]
/-- Settled by the first coins. -/
def settleB (k : Nat) : List Bool → Nat → List (Int × Nat) → List Nat → Option ((List (Int × Nat) × List Nat) × Nat)
  | [], u, bag, T => match crowdB k bag T.length with
    | Option.none => some ((bag, T), u)
    | some _ => Option.none
  | c :: cs, u, bag, T => match crowdB k bag T.length with
    | Option.none => some ((bag, T), u)
    | some h => settleB k cs (u + 1) (thinB bag h c) (thinT T h)
theorem settleB_eq {k : Nat} {X : List Int} : ∀ {cs : List Bool} {u : Nat} {bag : List (Int × Nat)} {L : List Lvl}, BagOf bag L → LvOk X L → match settle k cs u L with
    | Option.none => settleB k cs u bag (timesN L) = Option.none
    | some (L', u') => ∃ bag', settleB k cs u bag (timesN L) = some ((bag', timesN L'), u') ∧ BagOf bag' L' ∧ LvOk X L'
  | [], u, bag, L, hB, hL => by
    have e := crowdB_eq (k := k) hB
    rw [← timesN_length] at e
    unfold settle settleB
    rw [e]
    cases toThinL k L with
    | none => exact ⟨bag, rfl, hB, hL⟩
    | some h => rfl
  | c :: cs, u, bag, L, hB, hL => by
    have e := crowdB_eq (k := k) hB
    rw [← timesN_length] at e
    unfold settle settleB
    rw [e]
    cases ht : toThinL k L with
    | none => exact ⟨bag, rfl, hB, hL⟩
    | some h =>
      have hh := (toThinL_some ht).1
      have ih := settleB_eq (k := k) (X := X) (cs := cs) (u := u + 1) (hB.thin hL hh c) (hL.thin h c)
      rw [thinL_timesN hh] at ih
      exact ih

end Go.Proofs.YtklicjbpjigfdabGreat

/- DERIVED. A level told in rising order; error and spread out of the times. -/
namespace Go.Proofs.YtklicjbpjigfdabGreat

/-- Each number is laid at its place. -/
def lay (R : List (Int × Nat)) (o : List Int) : List Int := R.foldl (fun o a => o.set a.2 a.1) o
theorem lay_at (items : List Int) : ∀ (R : List (Int × Nat)) (o : List Int), o.length = items.length → (∀ a ∈ R, items[a.2]? = some a.1) → ∀ j, (lay R o)[j]? = if (∃ a ∈ R, a.2 = j) then items[j]? else o[j]?
  | [], o, _, _, j => by simp [lay]
  | a :: R, o, hl, h, j => by
    have ha := h a (List.mem_cons_self ..)
    have hlt : a.2 < items.length := by
      rcases Nat.lt_or_ge a.2 items.length with h1 | h1
      · exact h1
      · rw [List.getElem?_eq_none h1] at ha; cases ha
    have ih := lay_at items R (o.set a.2 a.1) (by simpa using hl) (fun b hb => h b (List.mem_cons_of_mem _ hb)) j
    show (lay R (o.set a.2 a.1))[j]? = _
    rw [ih]
    by_cases e : ∃ b ∈ R, b.2 = j
    · obtain ⟨b, hb, e2⟩ := e
      rw [if_pos ⟨b, hb, e2⟩, if_pos ⟨b, List.mem_cons_of_mem _ hb, e2⟩]
    · rw [if_neg e]
      by_cases e2 : a.2 = j
      · rw [if_pos ⟨a, List.mem_cons_self .., e2⟩, ← e2, ha, List.getElem?_set_self (by omega)]
      · rw [List.getElem?_set_ne e2, if_neg]
        rintro ⟨b, hb, e3⟩
        rcases List.mem_cons.1 hb with rfl | hb
        · exact e2 e3
        · exact e ⟨b, hb, e3⟩
theorem lay_sorted {X : List Int} {bag : List (Int × Nat)} {L : List Lvl} (hB : BagOf bag L) (hL : LvOk X L) (h : Nat) : lay (rkOf bag h) (List.replicate (lvOf bag h).length 0) = (L.getD h Lvl.none).items := by
  have hr := bag_rk hB hL h
  have hlen := (hB h).length_eq
  refine List.ext_getElem? (fun j => ?_)
  rw [lay_at (L.getD h Lvl.none).items (rkOf bag h) _ (by simpa using hlen) (fun a ha => by
    have h1 := List.mem_zipIdx (hr.subset ha)
    have h2 : a.2 < (L.getD h Lvl.none).items.length := by omega
    rw [List.getElem?_eq_getElem h2]
    have h3 := h1.2.2
    simp only [Nat.sub_zero] at h3
    rw [h3])]
  by_cases e : ∃ a ∈ rkOf bag h, a.2 = j
  · rw [if_pos e]
  · rw [if_neg e]
    rcases Nat.lt_or_ge j (L.getD h Lvl.none).items.length with h1 | h1
    · exfalso
      refine e ⟨((L.getD h Lvl.none).items[j], j), hr.symm.subset ?_, rfl⟩
      have : (L.getD h Lvl.none).items.zipIdx[j]'(by simpa using h1) = ((L.getD h Lvl.none).items[j], j) := by simp
      rw [← this]
      exact List.getElem_mem _
    · rw [List.getElem?_eq_none (by simp; omega), List.getElem?_eq_none h1]
/-- The place of an item is below the number of items of its level. -/
theorem place_lt {X : List Int} {bag : List (Int × Nat)} {L : List Lvl} (hB : BagOf bag L) (hL : LvOk X L) {h i : Nat} {x : Int} (hi : bag[i]? = some (x, h)) : placeB bag i (x, h) < (lvOf bag h).length := by
  have hr := bag_rk hB hL h
  have hm : (x, placeB bag i (x, h)) ∈ rkOf bag h := by
    unfold rkOf
    refine List.mem_map.2 ⟨((x, h), i), List.mem_filter.2 ⟨?_, by simp⟩, rfl⟩
    exact List.mem_zipIdx_iff_getElem?.2 hi
  have := zipIdx_lt (hr.subset hm)
  rw [(hB h).length_eq]
  exact this
theorem esum_sumN : ∀ L : List Lvl, esum L = sumN (fun j => 2 ^ j * (timesN L).getD j 0) L.length
  | [] => rfl
  | l :: L => by
    rw [esum, List.length_cons, sumN_shift, esum_sumN L, ← sumN_dbl]
    have e : timesN (l :: L) = l.times :: timesN L := rfl
    rw [e]
    simp only [Nat.pow_zero, Nat.one_mul, List.getD_cons_zero, List.getD_cons_succ]
    congr 1
    exact sumN_congr (fun j _ => by rw [Nat.pow_succ, Nat.mul_comm (2 ^ j) 2, Nat.mul_assoc])
theorem ssum_sumN : ∀ L : List Lvl, ssum L = sumN (fun j => 4 ^ j * (timesN L).getD j 0) L.length
  | [] => rfl
  | l :: L => by
    have e4 : ∀ s, 4 * s = 2 * (2 * s) := fun s => by omega
    rw [ssum, List.length_cons, sumN_shift, ssum_sumN L, e4, ← sumN_dbl, ← sumN_dbl]
    have e : timesN (l :: L) = l.times :: timesN L := rfl
    rw [e]
    simp only [Nat.pow_zero, Nat.one_mul, List.getD_cons_zero, List.getD_cons_succ]
    congr 1
    exact sumN_congr (fun j _ => by rw [Nat.pow_succ, Nat.mul_comm (4 ^ j) 4, Nat.mul_assoc]; omega)

end Go.Proofs.YtklicjbpjigfdabGreat

/- DERIVED. What came into a sketch, as the statement's own text keeps it: plain mathematics. -/
namespace Go.Proofs.YtklicjbpjigfdabGreat

/-- What came in: each number once, with what it weighs. -/
structure Sd where
  xs : List Int
  ws : List Nat
  n : Nat
  k : Nat
  ones : Bool
  gone : Bool

/-- The place of x among the numbers from i on. -/
def findAt (x : Int) : Nat → List Int → Option Nat
  | _, [] => Option.none
  | i, y :: ys => if y = x then some i else findAt x (i + 1) ys
def putXs (s : Sd) (x : Int) : List Int := match findAt x 0 s.xs with
  | some _ => s.xs
  | Option.none => s.xs ++ [x]
def putWs (s : Sd) (x : Int) (w : Nat) : List Nat := match findAt x 0 s.xs with
  | some i => s.ws.set i (s.ws.getD i 0 + w)
  | Option.none => s.ws ++ [w]
def Sd.put (s : Sd) (x : Int) (w : Nat) : Sd := { s with xs := putXs s x, ws := putWs s x w, n := s.n + w }

theorem findAt_drop {x : Int} {l : List Int} {i : Nat} (h : i < l.length) : findAt x i (l.drop i) = if l.getD i 0 = x then some i else findAt x (i + 1) (l.drop (i + 1)) := by
  rw [List.drop_eq_getElem_cons h, findAt]; simp [List.getD, h]
theorem findAt_none {x : Int} : ∀ {l : List Int} {i : Nat}, findAt x i l = Option.none ↔ x ∉ l := by
  intro l
  induction l with
  | nil => intro i; simp [findAt]
  | cons y l ih =>
    intro i
    rw [findAt]
    split
    · rename_i e; simp [e]
    · rename_i e
      rw [ih]
      simp only [List.mem_cons, not_or]
      exact ⟨fun h => ⟨fun e' => e e'.symm, h⟩, fun h => h.2⟩
theorem findAt_some {x : Int} : ∀ {l : List Int} {i r : Nat}, findAt x i l = some r → i ≤ r ∧ r < i + l.length ∧ l.getD (r - i) 0 = x := by
  intro l
  induction l with
  | nil => intro i r h; simp [findAt] at h
  | cons y l ih =>
    intro i r h
    rw [findAt] at h
    split at h
    · cases h
      refine ⟨Nat.le_refl _, by simp, ?_⟩
      simpa using ‹_›
    · obtain ⟨h1, h2, h3⟩ := ih h
      refine ⟨by omega, by simp; omega, ?_⟩
      rw [show r - i = (r - (i + 1)) + 1 by omega]
      simpa using h3

/-- What of it weighs, where p holds. -/
def wFilter (p : Int → Bool) : List Int → List Nat → Nat
  | x :: xs, w :: ws => (if p x then w else 0) + wFilter p xs ws
  | _, _ => 0
def wAll : List Nat → Nat
  | [] => 0
  | w :: ws => w + wAll ws

theorem wFilter_le (p : Int → Bool) : ∀ (xs : List Int) (ws : List Nat), wFilter p xs ws ≤ wAll ws := by
  intro xs
  induction xs with
  | nil => intro ws; cases ws <;> simp [wFilter]
  | cons x xs ih =>
    intro ws
    cases ws with
    | nil => simp [wFilter]
    | cons w ws => have := ih ws; simp only [wFilter, wAll]; split <;> omega
theorem wFilter_drop (p : Int → Bool) {xs : List Int} {ws : List Nat} {i : Nat} (hx : i < xs.length) (hw : i < ws.length) : wFilter p (xs.drop i) (ws.drop i) = (if p (xs.getD i 0) then ws.getD i 0 else 0) + wFilter p (xs.drop (i + 1)) (ws.drop (i + 1)) := by
  rw [List.drop_eq_getElem_cons hx, List.drop_eq_getElem_cons hw, wFilter]; simp [List.getD, hx, hw]
theorem wFilter_end (p : Int → Bool) {xs : List Int} {ws : List Nat} {i : Nat} (hx : xs.length ≤ i) : wFilter p (xs.drop i) (ws.drop i) = 0 := by
  rw [List.drop_eq_nil_of_le hx, wFilter.eq_def]
theorem wFilter_none (p : Int → Bool) : ∀ (xs : List Int) (ws : List Nat), (∀ x ∈ xs, p x = false) → wFilter p xs ws = 0 := by
  intro xs
  induction xs with
  | nil => intro ws _; cases ws <;> simp [wFilter]
  | cons x xs ih =>
    intro ws h
    cases ws with
    | nil => simp [wFilter]
    | cons w ws => rw [wFilter, ih ws (fun y hy => h y (by simp [hy])), h x (by simp)]; simp
theorem wFilter_all (p : Int → Bool) : ∀ (xs : List Int) (ws : List Nat), xs.length = ws.length → (∀ x ∈ xs, p x = true) → wFilter p xs ws = wAll ws := by
  intro xs
  induction xs with
  | nil => intro ws h _; cases ws with | nil => rfl | cons => simp at h
  | cons x xs ih =>
    intro ws hl h
    cases ws with
    | nil => simp at hl
    | cons w ws => rw [wFilter, ih ws (by simpa using hl) (fun y hy => h y (by simp [hy])), h x (by simp), wAll]; simp
theorem wAll_at {ws : List Nat} {i : Nat} : ws.getD i 0 ≤ wAll ws := by
  induction ws generalizing i with
  | nil => simp
  | cons w ws ih =>
    cases i with
    | zero => simp [wAll]
    | succ i => have := ih (i := i); simp only [wAll, List.getD_cons_succ]; omega
theorem wAll_set {ws : List Nat} {i v : Nat} (h : i < ws.length) : wAll (ws.set i (ws.getD i 0 + v)) = wAll ws + v := by
  induction ws generalizing i with
  | nil => simp at h
  | cons w ws ih =>
    cases i with
    | zero => simp [wAll]; omega
    | succ i => have := ih (i := i) (by simpa using h); simp only [wAll, List.set_cons_succ, List.getD_cons_succ] at this ⊢; omega
theorem wAll_snoc (ws : List Nat) (v : Nat) : wAll (ws ++ [v]) = wAll ws + v := by
  induction ws with
  | nil => simp [wAll]
  | cons w ws ih => simp only [List.cons_append, wAll, ih]; omega
theorem wAll_len {ws : List Nat} (h : ∀ w ∈ ws, 1 ≤ w) : ws.length ≤ wAll ws := by
  induction ws with
  | nil => simp [wAll]
  | cons w ws ih => have := ih (fun v hv => h v (by simp [hv])); have := h w (by simp); simp only [wAll, List.length_cons]; omega
def nats (ws : List Nat) : List Int := ws.map fun (n : Nat) => (n : Int)
theorem nats_getD (ws : List Nat) (i : Nat) : (nats ws).getD i 0 = ((ws.getD i 0 : Nat) : Int) := by
  simp only [nats, List.getD, List.getElem?_map]
  cases ws[i]? <;> rfl

end Go.Proofs.YtklicjbpjigfdabGreat
