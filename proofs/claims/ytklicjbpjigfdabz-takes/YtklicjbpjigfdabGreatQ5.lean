/- DERIVED. Plain mathematics of one sketch's levels coming into another's. -/
import Derived.Test.YtklicjbpjigfdabGreatQ4
namespace Go.Proofs.YtklicjbpjigfdabGreat
open Go.RowKit

/-- Level t comes onto level h. -/
def mstep (L : List Lvl) (h : Nat) (t : Lvl) : List Lvl :=
  setTimes (setItems (at1 L h) h (jn ((at1 L h).getD h Lvl.none).items t.items)) h (((at1 L h).getD h Lvl.none).times + t.times)
/-- The levels T come in, from level h on. -/
def mergeFrom : List Lvl → Nat → List Lvl → List Lvl
  | [], _, L => L
  | t :: T, h, L => mergeFrom T (h + 1) (mstep L h t)
/-- All of it at once. -/
def mergeL : List Lvl → List Lvl → List Lvl
  | L, [] => L
  | [], t :: T => ⟨jn [] t.items, t.times⟩ :: mergeL [] T
  | l :: L, t :: T => ⟨jn l.items t.items, l.times + t.times⟩ :: mergeL L T

theorem mstep_app (P L : List Lvl) (l t : Lvl) : mstep (P ++ l :: L) P.length t = P ++ ⟨jn l.items t.items, l.times + t.times⟩ :: L := by
  have h1 : at1 (P ++ l :: L) P.length = P ++ l :: L := by unfold at1; rw [if_neg (by simp)]
  have h2 : (P ++ l :: L).getD P.length Lvl.none = l := by simp [List.getD]
  unfold mstep
  rw [h1, h2]
  simp [setItems, setTimes, List.getD]
theorem mstep_end (P : List Lvl) (t : Lvl) : mstep P P.length t = P ++ [⟨jn [] t.items, t.times⟩] := by
  have h1 : at1 P P.length = P ++ [Lvl.none] := by unfold at1; rw [if_pos rfl]
  have h2 : (P ++ [Lvl.none]).getD P.length Lvl.none = Lvl.none := by simp [List.getD]
  unfold mstep
  rw [h1, h2]
  simp [setItems, setTimes, List.getD, Lvl.none]
theorem mergeFrom_app : ∀ (T P L : List Lvl), mergeFrom T P.length (P ++ L) = P ++ mergeL L T := by
  intro T
  induction T with
  | nil => intro P L; cases L <;> simp [mergeFrom, mergeL]
  | cons t T ih =>
    intro P L
    cases L with
    | nil =>
      rw [mergeFrom, List.append_nil, mstep_end, mergeL]
      have := ih (P ++ [⟨jn [] t.items, t.times⟩]) []
      simp only [List.length_append, List.length_cons, List.length_nil, List.append_nil, Nat.zero_add] at this
      rw [this, List.append_assoc]; rfl
    | cons l L =>
      rw [mergeFrom, mstep_app, mergeL]
      have := ih (P ++ [⟨jn l.items t.items, l.times + t.times⟩]) L
      simp only [List.length_append, List.length_cons, List.length_nil, List.append_assoc, Nat.zero_add, List.cons_append, List.nil_append] at this
      rw [this]
theorem mergeFrom_eq (T L : List Lvl) : mergeFrom T 0 L = mergeL L T := by
  have := mergeFrom_app T [] L
  simpa using this
theorem mergeFrom_drop {T L : List Lvl} {j : Nat} (h : j < T.length) : mergeFrom (T.drop j) j L = mergeFrom (T.drop (j + 1)) (j + 1) (mstep L j (T.getD j Lvl.none)) := by
  rw [lv_drop T j h, mergeFrom]
theorem mergeFrom_end {T L : List Lvl} {j : Nat} (h : T.length ≤ j) : mergeFrom (T.drop j) j L = L := by
  rw [List.drop_eq_nil_of_le h, mergeFrom]

theorem mstep_length {L : List Lvl} {h : Nat} {t : Lvl} : (mstep L h t).length = if h = L.length then L.length + 1 else L.length := by
  unfold mstep
  rw [setTimes_length, setItems_length, at1_length]
theorem mstep_nsum {L : List Lvl} {h : Nat} {t : Lvl} (hh : h ≤ L.length) : nsum (mstep L h t) = nsum L + t.items.length := by
  have hl : h < (at1 L h).length := by rw [at1_length]; split <;> omega
  unfold mstep
  rw [setTimes_nsum]
  have := setItems_nsum (X := jn ((at1 L h).getD h Lvl.none).items t.items) hl
  rw [jn_length, at1_nsum] at this
  omega
theorem mstep_tsum {L : List Lvl} {h : Nat} {t : Lvl} (hh : h ≤ L.length) : tsum (mstep L h t) = tsum L + t.times := by
  have hl : h < (at1 L h).length := by rw [at1_length]; split <;> omega
  have e1 : tsum (at1 L h) = tsum L := by
    unfold at1; split
    · exact tsum_snoc L
    · rfl
  unfold mstep
  have := setTimes_tsum (L := setItems (at1 L h) h (jn ((at1 L h).getD h Lvl.none).items t.items)) (h := h) (t := ((at1 L h).getD h Lvl.none).times + t.times) (by rw [setItems_length]; exact hl)
  rw [setItems_tsum, e1, setItems_times] at this
  omega
theorem mstep_set {L : List Lvl} {h : Nat} {t : Lvl} : mstep L h t = setTimes (setItems (at1 L h) h (jn ((at1 L h).getD h Lvl.none).items t.items)) h (((setItems (at1 L h) h (jn ((at1 L h).getD h Lvl.none).items t.items)).getD h Lvl.none).times + t.times) := by
  rw [setItems_times]; rfl

theorem mergeL_nil (L : List Lvl) : mergeL L [] = L := by cases L <;> rfl
/-- What adds up. -/
theorem mergeL_wsum : ∀ (T L : List Lvl), wsum (mergeL L T) = wsum L + wsum T := by
  intro T
  induction T with
  | nil => intro L; rw [mergeL_nil]; simp [wsum]
  | cons t T ih =>
    intro L
    cases L with
    | nil => simp only [mergeL, wsum, jn_length, ih, List.length_nil]; omega
    | cons l L => simp only [mergeL, wsum, jn_length, ih]; omega
theorem mergeL_nsum : ∀ (T L : List Lvl), nsum (mergeL L T) = nsum L + nsum T := by
  intro T
  induction T with
  | nil => intro L; rw [mergeL_nil]; simp [nsum]
  | cons t T ih =>
    intro L
    cases L with
    | nil => simp only [mergeL, nsum, jn_length, ih, List.length_nil]; omega
    | cons l L => simp only [mergeL, nsum, jn_length, ih]; omega
theorem mergeL_tsum : ∀ (T L : List Lvl), tsum (mergeL L T) = tsum L + tsum T := by
  intro T
  induction T with
  | nil => intro L; rw [mergeL_nil]; simp [tsum]
  | cons t T ih =>
    intro L
    cases L with
    | nil => simp only [mergeL, tsum, ih]; omega
    | cons l L => simp only [mergeL, tsum, ih]; omega
theorem mergeL_length : ∀ (T L : List Lvl), (mergeL L T).length = max L.length T.length := by
  intro T
  induction T with
  | nil => intro L; rw [mergeL_nil]; simp
  | cons t T ih =>
    intro L
    cases L with
    | nil => simp only [mergeL, List.length_cons, ih, List.length_nil]; omega
    | cons l L => simp only [mergeL, List.length_cons, ih]; omega
theorem LvOk.merge {X : List Int} : ∀ {T L : List Lvl}, LvOk X L → LvOk X T → LvOk X (mergeL L T) := by
  intro T
  induction T with
  | nil => intro L h _; rw [mergeL_nil]; exact h
  | cons t T ih =>
    intro L hL hT
    have ht := hT t (by simp)
    have hT' : LvOk X T := fun l hl => hT l (by simp [hl])
    cases L with
    | nil =>
      intro l hl
      simp only [mergeL, List.mem_cons] at hl
      rcases hl with rfl | hl
      · exact ⟨srt_jn List.Pairwise.nil ht.1, fun x hx => (mem_jn hx).elim (fun h => by simp at h) (ht.2 x)⟩
      · exact ih hL hT' l hl
    | cons a L =>
      have ha := hL a (by simp)
      intro l hl
      simp only [mergeL, List.mem_cons] at hl
      rcases hl with rfl | hl
      · exact ⟨srt_jn ha.1 ht.1, fun x hx => (mem_jn hx).elim (ha.2 x) (ht.2 x)⟩
      · exact ih (fun l hl => hL l (by simp [hl])) hT' l hl

end Go.Proofs.YtklicjbpjigfdabGreat

/- DERIVED. A bag and the levels of a sketch that hold the same. -/
namespace Go.Proofs.YtklicjbpjigfdabGreat

/-- The bag holds on each level what the level has. -/
def BagOf (bag : List (Int × Nat)) (L : List Lvl) : Prop := ∀ j, (lvOf bag j).Perm (L.getD j Lvl.none).items
theorem jn_perm : ∀ (B A : List Int), (jn A B).Perm (A ++ B)
  | [], A => by rw [jn_nil, List.append_nil]
  | x :: B, A => by
    rw [jn]
    have ih := jn_perm B (A.dropWhile fun a => decide (a ≤ x))
    have h1 : (A.takeWhile (fun a => decide (a ≤ x)) ++ x :: jn (A.dropWhile fun a => decide (a ≤ x)) B).Perm (A.takeWhile (fun a => decide (a ≤ x)) ++ x :: (A.dropWhile (fun a => decide (a ≤ x)) ++ B)) := List.Perm.append_left _ (ih.cons x)
    refine h1.trans ?_
    have h2 : A ++ x :: B = A.takeWhile (fun a => decide (a ≤ x)) ++ (A.dropWhile (fun a => decide (a ≤ x)) ++ x :: B) := by rw [← List.append_assoc, List.takeWhile_append_dropWhile]
    rw [h2]
    exact List.Perm.append_left _ List.perm_middle.symm
theorem thinL_items {c : Bool} : ∀ {L : List Lvl} {h : Nat}, h < L.length → ∀ j, ((thinL L h c).getD j Lvl.none).items = if j = h then (L.getD h Lvl.none).items.take ((L.getD h Lvl.none).items.length % 2) else if j = h + 1 then jn (L.getD (h + 1) Lvl.none).items (upOf (L.getD h Lvl.none).items c) else (L.getD j Lvl.none).items
  | [], h, hh, _ => by simp at hh
  | [l], 0, _, j => by
    rw [thinL_one]
    match j with
    | 0 => rfl
    | 1 => rfl
    | j + 2 => simp
  | l :: m :: L, 0, _, j => by
    rw [thinL_two]
    match j with
    | 0 => rfl
    | 1 => rfl
    | j + 2 => simp
  | l :: L, h + 1, hh, j => by
    rw [thinL_succ]
    match j with
    | 0 => simp
    | j + 1 =>
      have := thinL_items (c := c) (L := L) (h := h) (by simpa using hh) j
      simp only [List.getD_cons_succ, Nat.add_right_cancel_iff]
      exact this
theorem bag_rk {X : List Int} {bag : List (Int × Nat)} {L : List Lvl} (hB : BagOf bag L) (hL : LvOk X L) (h : Nat) : (rkOf bag h).Perm (L.getD h Lvl.none).items.zipIdx := by
  obtain ⟨s, hs, hp⟩ := rkOf_perm h bag
  have h1 : (lvOf bag h).Perm s := by
    have := hp.map fun a => a.1
    rw [rkOf_fst] at this
    simpa using this
  have h2 : s = (L.getD h Lvl.none).items := List.Perm.eq_of_pairwise (le := (· ≤ ·)) (fun a b _ _ x y => Int.le_antisymm x y) hs (hL.at h).1 (h1.symm.trans (hB h))
  rw [← h2]; exact hp
/-- The bag with level h thinned. -/
def thinB (bag : List (Int × Nat)) (h : Nat) (c : Bool) : List (Int × Nat) := thinZ bag.zipIdx h ((lvOf bag h).length % 2) c (fun a => placeB bag a.2 a.1)
theorem BagOf.thin {X : List Int} {bag : List (Int × Nat)} {L : List Lvl} {h : Nat} (hB : BagOf bag L) (hL : LvOk X L) (hh : h < L.length) (c : Bool) : BagOf (thinB bag h c) (thinL L h c) := by
  have hr : (rkZ bag.zipIdx h fun a => placeB bag a.2 a.1).Perm (L.getD h Lvl.none).items.zipIdx := bag_rk hB hL h
  have hz : bag.zipIdx.map (fun a => a.1) = bag := by simp
  have hn := (hB h).length_eq
  intro j
  rw [thinL_items hh j]
  unfold thinB
  by_cases e : j = h
  · subst e
    rw [if_pos rfl, thinZ_low, hn]
    refine ((hr.filter _).map _).trans ?_
    rw [low_take]
    simp
  · rw [if_neg e]
    by_cases e2 : j = h + 1
    · subst e2
      rw [if_pos rfl]
      refine (thinZ_up _).trans ?_
      rw [hz, hn]
      refine (List.Perm.append (hB (h + 1)) ((hr.filter _).map _)).trans ?_
      rw [up_all]
      exact (jn_perm _ _).symm
    · rw [if_neg e2, thinZ_other e e2, hz]
      exact hB j
theorem mergeL_items : ∀ (L T : List Lvl) (j : Nat), ((mergeL L T).getD j Lvl.none).items = jn (L.getD j Lvl.none).items (T.getD j Lvl.none).items
  | L, [], j => by rw [mergeL_nil]; simp [Lvl.none, jn_nil]
  | [], t :: T, j => by
    match j with
    | 0 => simp [mergeL, Lvl.none]
    | j + 1 =>
      have := mergeL_items [] T j
      simp [mergeL, Lvl.none] at this ⊢
      exact this
  | l :: L, t :: T, j => by
    match j with
    | 0 => simp [mergeL]
    | j + 1 =>
      have := mergeL_items L T j
      simp only [mergeL, List.getD_cons_succ]
      exact this
theorem BagOf.merge {a b : List (Int × Nat)} {L T : List Lvl} (hA : BagOf a L) (hB : BagOf b T) : BagOf (a ++ b) (mergeL L T) := fun j => by
  rw [lvOf_append, mergeL_items]
  exact ((hA j).append (hB j)).trans (jn_perm _ _).symm

/-- Added up over the numbers below n. -/
def sumN (f : Nat → Nat) : Nat → Nat
  | 0 => 0
  | n + 1 => sumN f n + f n
theorem sumN_add (f g : Nat → Nat) : ∀ n, sumN (fun j => f j + g j) n = sumN f n + sumN g n
  | 0 => rfl
  | n + 1 => by rw [sumN, sumN_add f g n, sumN, sumN]; omega
theorem sumN_congr {f g : Nat → Nat} : ∀ {n : Nat}, (∀ j, j < n → f j = g j) → sumN f n = sumN g n
  | 0, _ => rfl
  | n + 1, h => by rw [sumN, sumN, sumN_congr (fun j hj => h j (by omega)), h n (by omega)]
theorem sumN_one (v i : Nat) : ∀ n, sumN (fun j => if i = j then v else 0) n = if i < n then v else 0
  | 0 => by simp [sumN]
  | n + 1 => by
    rw [sumN, sumN_one v i n]
    by_cases e : i = n
    · subst e; simp
    · by_cases e2 : i < n
      · rw [if_pos e2, if_neg e, if_pos (by omega)]; rfl
      · rw [if_neg e2, if_neg e, if_neg (by omega)]
/-- What the items of a bag weigh that meet p, level by level. -/
theorem bag_sum (g : Nat → Nat) (p : Int → Bool) (n : Nat) : ∀ (bag : List (Int × Nat)), (∀ z ∈ bag, z.2 < n) → ((bag.filter fun z => p z.1).map fun z => g z.2).sum = sumN (fun j => g j * (lvOf bag j).countP p) n
  | [], _ => by
    have : ∀ m, sumN (fun j => g j * (lvOf [] j).countP p) m = 0 := fun m => by
      induction m with
      | zero => rfl
      | succ m ih => rw [sumN, ih]; simp [lvOf_nil]
    rw [this]; rfl
  | a :: bag, h => by
    have ih := bag_sum g p n bag (fun z hz => h z (List.mem_cons_of_mem _ hz))
    have ha := h a (List.mem_cons_self ..)
    have e1 : sumN (fun j => g j * (lvOf (a :: bag) j).countP p) n = sumN (fun j => (if a.2 = j then (if p a.1 then g a.2 else 0) else 0) + g j * (lvOf bag j).countP p) n := sumN_congr (fun j _ => by
      rw [lvOf_cons, List.countP_append, Nat.mul_add]
      congr 1
      by_cases e : a.2 = j
      · subst e
        by_cases e2 : p a.1 <;> simp [e2]
      · simp [e])
    rw [e1, sumN_add, sumN_one, if_pos ha, ← ih, List.filter_cons]
    by_cases e2 : p a.1 <;> simp [e2]

end Go.Proofs.YtklicjbpjigfdabGreat

/- DERIVED. Plain mathematics of ranks: what the items weigh that are at most q, and how far that is off. -/
namespace Go.Proofs.YtklicjbpjigfdabGreat
open Go.RowKit

/-- How many are at most q. -/
def cnt (q : Int) (l : List Int) : Nat := l.countP (fun a => decide (a ≤ q))
theorem cnt_nil (q : Int) : cnt q [] = 0 := rfl
theorem cnt_cons (q x : Int) (l : List Int) : cnt q (x :: l) = cnt q l + (if x ≤ q then 1 else 0) := by
  unfold cnt; rw [List.countP_cons]; simp
theorem cnt_append (q : Int) (a b : List Int) : cnt q (a ++ b) = cnt q a + cnt q b := by unfold cnt; rw [List.countP_append]
theorem cnt_le (q : Int) (l : List Int) : cnt q l ≤ l.length := List.countP_le_length
theorem cnt_jn (q : Int) : ∀ (B A : List Int), cnt q (jn A B) = cnt q A + cnt q B := by
  intro B
  induction B with
  | nil => intro A; rw [jn_nil, cnt_nil]; rfl
  | cons x B ih =>
    intro A
    have h := congrArg (cnt q) (List.takeWhile_append_dropWhile (p := fun a => decide (a ≤ x)) (l := A))
    rw [cnt_append] at h
    simp only [jn, cnt_append, cnt_cons, ih]
    omega
theorem cnt_zero {q : Int} {l : List Int} (h : ∀ x ∈ l, q < x) : cnt q l = 0 := by
  unfold cnt
  rw [List.countP_eq_zero]
  intro x hx
  have := h x hx
  simp; omega
theorem cnt_all {q : Int} {l : List Int} (h : ∀ x ∈ l, x ≤ q) : cnt q l = l.length := by
  unfold cnt
  rw [List.countP_eq_length]
  intro x hx
  have := h x hx
  simpa using this
/-- Of a rising list every second one. -/
theorem cnt_evens (q : Int) : ∀ l : List Int, Srt l → cnt q (evens l) = (cnt q l + 1) / 2
  | [], _ => by simp [evens, cnt_nil]
  | [x], _ => by simp only [evens, cnt_cons, cnt_nil]; split <;> omega
  | x :: y :: r, h => by
    have hr : Srt r := List.Pairwise.of_cons (List.Pairwise.of_cons h)
    have ih := cnt_evens q r hr
    have hxy : x ≤ y := List.rel_of_pairwise_cons h (by simp)
    simp only [evens, cnt_cons, ih]
    by_cases hy : y ≤ q
    · rw [if_pos hy, if_pos (by omega)]; omega
    · have h0 : cnt q r = 0 := cnt_zero (fun z hz => by have := List.rel_of_pairwise_cons (List.Pairwise.of_cons h) hz; omega)
      rw [if_neg hy, h0]; split <;> omega
theorem cnt_odds (q : Int) : ∀ l : List Int, Srt l → cnt q (evens (l.drop 1)) = cnt q l / 2
  | [], _ => by simp [evens, cnt_nil]
  | x :: r, h => by
    have hr : Srt r := List.Pairwise.of_cons h
    rw [List.drop_one, List.tail_cons, cnt_evens q r hr, cnt_cons]
    by_cases hx : x ≤ q
    · rw [if_pos hx]
    · have h0 : cnt q r = 0 := cnt_zero (fun z hz => by have := List.rel_of_pairwise_cons h hz; omega)
      rw [if_neg hx, h0]
/-- What goes up, by the coin. -/
theorem cnt_up (q : Int) (its : List Int) (h : Srt its) (c : Bool) : cnt q (upOf its c) = if c then cnt q (its.drop (its.length % 2)) / 2 else (cnt q (its.drop (its.length % 2)) + 1) / 2 := by
  have hd : Srt (its.drop (its.length % 2)) := h.sublist (List.drop_sublist _ _)
  unfold upOf
  cases c
  · simp only [Bool.false_eq_true, if_false, Nat.add_zero]
    exact cnt_evens q _ hd
  · simp only [if_true]
    rw [← List.drop_drop]
    exact cnt_odds q _ hd
theorem cnt_split (q : Int) (its : List Int) (n : Nat) : cnt q (its.take n) + cnt q (its.drop n) = cnt q its := by
  rw [← cnt_append, List.take_append_drop]

/-- What the items weigh that are at most q. -/
def usum (q : Int) : List Lvl → Nat
  | [] => 0
  | l :: L => cnt q l.items + 2 * usum q L
theorem usum_le (q : Int) : ∀ L, usum q L ≤ wsum L
  | [] => Nat.le_refl _
  | l :: L => by have := usum_le q L; have := cnt_le q l.items; simp only [usum, wsum]; omega
theorem usum_snoc (q : Int) (L : List Lvl) : usum q (L ++ [Lvl.none]) = usum q L := by
  induction L with
  | nil => rfl
  | cons l L ih => simp only [List.cons_append, usum, ih]
theorem usum_at1 (q : Int) (L : List Lvl) (h : Nat) : usum q (at1 L h) = usum q L := by
  unfold at1; split
  · exact usum_snoc q L
  · rfl
theorem usum_setItems {q : Int} {L : List Lvl} {h : Nat} {X : List Int} (hh : h < L.length) : usum q (setItems L h X) + 2 ^ h * cnt q (L.getD h Lvl.none).items = usum q L + 2 ^ h * cnt q X := by
  induction L generalizing h with
  | nil => simp at hh
  | cons l L ih =>
    cases h with
    | zero => simp [setItems, usum]; omega
    | succ h =>
      have := ih (h := h) (by simpa using hh)
      simp only [setItems, List.getD_cons_succ, List.set_cons_succ, usum] at this ⊢
      rw [Nat.pow_succ, Nat.mul_right_comm, Nat.mul_right_comm (2 ^ h) 2]
      omega
theorem usum_bit {q x : Int} {w h : Nat} {L : List Lvl} (hh : h < L.length) : usum q (bit1 x w L h) = usum q L + 2 ^ h * (if x ≤ q then w % 2 else 0) := by
  unfold bit1
  split
  · rename_i e
    have := usum_setItems (q := q) (X := jn (L.getD h Lvl.none).items [x]) hh
    rw [cnt_jn, Nat.mul_add, cnt_cons, cnt_nil, e] at *
    simp only [Nat.zero_add] at this
    omega
  · rename_i e
    have : w % 2 = 0 := by omega
    rw [this]; simp
theorem usum_with {q x : Int} : ∀ {f w h : Nat} {L : List Lvl}, w < 2 ^ f → h ≤ L.length → usum q (withFrom x f w h L) = usum q L + 2 ^ h * (if x ≤ q then w else 0) := by
  intro f
  induction f with
  | zero => intro w h L hw hh; simp at hw; subst hw; simp [withFrom]
  | succ f ih =>
    intro w h L hw hh
    by_cases h0 : w = 0
    · subst h0; rw [withFrom_zero]; simp
    · have hl : h < (at1 L h).length := by rw [at1_length]; split <;> omega
      rw [withFrom_step (by omega), ih (by rw [Nat.pow_succ] at hw; omega) (by rw [bit1_length]; omega), usum_bit hl, usum_at1, Nat.pow_succ, Nat.add_assoc, Nat.mul_assoc, ← Nat.mul_add]
      congr 2
      split <;> omega
theorem usum_merge (q : Int) : ∀ (T L : List Lvl), usum q (mergeL L T) = usum q L + usum q T := by
  intro T
  induction T with
  | nil => intro L; rw [mergeL_nil]; simp [usum]
  | cons t T ih =>
    intro L
    cases L with
    | nil => simp only [mergeL, usum, cnt_jn, ih, cnt_nil]; omega
    | cons l L => simp only [mergeL, usum, cnt_jn, ih]; omega

theorem esum_merge : ∀ (T L : List Lvl), esum (mergeL L T) = esum L + esum T := by
  intro T
  induction T with
  | nil => intro L; rw [mergeL_nil]; simp [esum]
  | cons t T ih =>
    intro L
    cases L with
    | nil => simp only [mergeL, esum, ih]; omega
    | cons l L => simp only [mergeL, esum, ih]; omega
theorem ssum_merge : ∀ (T L : List Lvl), ssum (mergeL L T) = ssum L + ssum T := by
  intro T
  induction T with
  | nil => intro L; rw [mergeL_nil]; simp [ssum]
  | cons t T ih =>
    intro L
    cases L with
    | nil => simp only [mergeL, ssum, ih]; omega
    | cons l L => simp only [mergeL, ssum, ih]; omega
theorem esum_snoc (L : List Lvl) : esum (L ++ [Lvl.none]) = esum L := by
  induction L with
  | nil => rfl
  | cons l L ih => simp only [List.cons_append, esum, ih]
theorem esum_setItems (L : List Lvl) (h : Nat) (X : List Int) : esum (setItems L h X) = esum L := by
  induction L generalizing h with
  | nil => simp [setItems]
  | cons l L ih =>
    cases h with
    | zero => simp [setItems, esum]
    | succ h =>
      have := ih h
      simp only [setItems, List.getD_cons_succ, List.set_cons_succ, esum] at this ⊢
      omega
theorem esum_with {x : Int} : ∀ {f w h : Nat} {L : List Lvl}, esum (withFrom x f w h L) = esum L := by
  intro f
  induction f with
  | zero => intro w h L; rfl
  | succ f ih =>
    intro w h L
    by_cases h0 : w = 0
    · subst h0; rw [withFrom_zero]
    · rw [withFrom_step (by omega), ih]
      have e1 : esum (at1 L h) = esum L := by
        unfold at1; split
        · exact esum_snoc L
        · rfl
      unfold bit1; split
      · rw [esum_setItems, e1]
      · exact e1

/-- A thinning: the error grows by the weight of one item; the ranks move by that at most. -/
theorem esum_thin {c : Bool} : ∀ {L : List Lvl} {h : Nat}, h < L.length → esum (thinL L h c) = esum L + 2 ^ h
  | [], _, hh => by simp at hh
  | [l], 0, _ => by rw [thinL_one]; simp [esum]
  | l :: m :: L, 0, _ => by rw [thinL_two]; simp only [esum]; omega
  | l :: L, j + 1, hh => by
    have := esum_thin (c := c) (L := L) (h := j) (by simpa using hh)
    rw [thinL_succ]
    simp only [esum, this, Nat.pow_succ]; omega
theorem usum_thin {q : Int} {X : List Int} {c : Bool} : ∀ {L : List Lvl} {h : Nat}, h < L.length → LvOk X L → usum q (thinL L h c) ≤ usum q L + 2 ^ h ∧ usum q L ≤ usum q (thinL L h c) + 2 ^ h
  | [], _, hh, _ => by simp at hh
  | [l], 0, _, hL => by
    have h1 := cnt_up q l.items (hL l (by simp)).1 c
    have h2 := cnt_split q l.items (l.items.length % 2)
    rw [thinL_one]
    simp only [usum, cnt_jn, cnt_nil, Nat.zero_add, Nat.pow_zero, h1]
    split <;> omega
  | l :: m :: L, 0, _, hL => by
    have h1 := cnt_up q l.items (hL l (by simp)).1 c
    have h2 := cnt_split q l.items (l.items.length % 2)
    rw [thinL_two]
    simp only [usum, cnt_jn, Nat.pow_zero, h1]
    split <;> omega
  | l :: L, j + 1, hh, hL => by
    have := usum_thin (q := q) (c := c) (L := L) (h := j) (by simpa using hh) (fun l hl => hL l (by simp [hl]))
    rw [thinL_succ]
    simp only [usum, Nat.pow_succ]; omega
theorem usum_settle {q : Int} {X : List Int} {k : Nat} : ∀ {cs : List Bool} {u : Nat} {L L' : List Lvl} {u' : Nat}, LvOk X L → settle k cs u L = some (L', u') → usum q L' + esum L ≤ usum q L + esum L' ∧ usum q L + esum L ≤ usum q L' + esum L' := by
  intro cs
  induction cs with
  | nil => intro u L L' u' _ hs; simp only [settle] at hs; split at hs <;> simp at hs; rw [← hs.1]; exact ⟨Nat.le_refl _, Nat.le_refl _⟩
  | cons c cs ih =>
    intro u L L' u' hL hs
    simp only [settle] at hs
    split at hs
    · simp at hs; rw [← hs.1]; exact ⟨Nat.le_refl _, Nat.le_refl _⟩
    · rename_i r hr
      obtain ⟨h1, _, _⟩ := toThinL_some hr
      have a := ih (hL.thin r c) hs
      have e := esum_thin (c := c) h1
      have u1 := usum_thin (q := q) (c := c) h1 hL
      omega

/-- The items' ranks are those of r, up to the error. -/
def Near (q : Int) (L : List Lvl) (r : Nat) : Prop := usum q L ≤ r + esum L ∧ r ≤ usum q L + esum L
theorem Near.settle {q : Int} {X : List Int} {k : Nat} {cs : List Bool} {u : Nat} {L L' : List Lvl} {u' r : Nat} (h : Near q L r) (hL : LvOk X L) (hs : settle k cs u L = some (L', u')) : Near q L' r := by
  have a := usum_settle (q := q) hL hs
  unfold Near at *
  omega

end Go.Proofs.YtklicjbpjigfdabGreat

/- DERIVED. What a bag weighs, which level is to be thinned, and settling it: as with the levels. -/
namespace Go.Proofs.YtklicjbpjigfdabGreat

theorem sumN_shift (f : Nat → Nat) : ∀ n, sumN f (n + 1) = f 0 + sumN (fun j => f (j + 1)) n
  | 0 => by simp [sumN]
  | n + 1 => by rw [sumN, sumN_shift f n, sumN]; omega
theorem sumN_dbl (f : Nat → Nat) : ∀ n, sumN (fun j => 2 * f j) n = 2 * sumN f n
  | 0 => rfl
  | n + 1 => by rw [sumN, sumN_dbl f n, sumN]; omega
theorem nsum_sumN : ∀ L : List Lvl, nsum L = sumN (fun j => (L.getD j Lvl.none).items.length) L.length
  | [] => rfl
  | l :: L => by
    rw [nsum, List.length_cons, sumN_shift, nsum_sumN L]
    simp
theorem wsum_sumN : ∀ L : List Lvl, wsum L = sumN (fun j => 2 ^ j * (L.getD j Lvl.none).items.length) L.length
  | [] => rfl
  | l :: L => by
    rw [wsum, List.length_cons, sumN_shift, wsum_sumN L, ← sumN_dbl]
    simp only [Nat.pow_zero, Nat.one_mul, List.getD_cons_zero, List.getD_cons_succ]
    congr 1
    exact sumN_congr (fun j _ => by rw [Nat.pow_succ, Nat.mul_comm (2 ^ j) 2, Nat.mul_assoc])
theorem usum_sumN (q : Int) : ∀ L : List Lvl, usum q L = sumN (fun j => 2 ^ j * cnt q (L.getD j Lvl.none).items) L.length
  | [] => rfl
  | l :: L => by
    rw [usum, List.length_cons, sumN_shift, usum_sumN q L, ← sumN_dbl]
    simp only [Nat.pow_zero, Nat.one_mul, List.getD_cons_zero, List.getD_cons_succ]
    congr 1
    exact sumN_congr (fun j _ => by rw [Nat.pow_succ, Nat.mul_comm (2 ^ j) 2, Nat.mul_assoc])
theorem BagOf.lt {bag : List (Int × Nat)} {L : List Lvl} (h : BagOf bag L) : ∀ z ∈ bag, z.2 < L.length := by
  intro z hz
  rcases Nat.lt_or_ge z.2 L.length with h1 | h1
  · exact h1
  · exfalso
    have h2 := h z.2
    have h3 : L.getD z.2 Lvl.none = Lvl.none := by simp [List.getD, h1]
    rw [h3] at h2
    have h4 : z.1 ∈ lvOf bag z.2 := List.mem_map.2 ⟨z, List.mem_filter.2 ⟨hz, by simp⟩, rfl⟩
    have h5 := h2.subset h4
    simp [Lvl.none] at h5
theorem BagOf.nsum {bag : List (Int × Nat)} {L : List Lvl} (h : BagOf bag L) : bag.length = nsum L := by
  have h1 := bag_sum (fun _ => 1) (fun _ => true) L.length bag h.lt
  have h2 : ((bag.filter fun _ => true).map fun _ => 1).sum = bag.length := by
    have : ∀ l : List (Int × Nat), (l.map fun _ => 1).sum = l.length := fun l => by
      induction l with
      | nil => rfl
      | cons a l ih => simp only [List.map_cons, List.sum_cons, ih, List.length_cons]; omega
    rw [this]; simp
  rw [← h2, h1, nsum_sumN]
  exact sumN_congr (fun j _ => by simp [(h j).length_eq])
theorem BagOf.wsum {bag : List (Int × Nat)} {L : List Lvl} (h : BagOf bag L) : (bag.map fun z => 2 ^ z.2).sum = wsum L := by
  have h1 := bag_sum (fun j => 2 ^ j) (fun _ => true) L.length bag h.lt
  have h2 : (bag.filter fun _ => true) = bag := by simp
  rw [h2] at h1
  rw [h1, wsum_sumN]
  exact sumN_congr (fun j _ => by simp [(h j).length_eq])
theorem BagOf.usum {bag : List (Int × Nat)} {L : List Lvl} (h : BagOf bag L) (q : Int) : ((bag.filter fun z => decide (z.1 ≤ q)).map fun z => 2 ^ z.2).sum = usum q L := by
  rw [bag_sum (fun j => 2 ^ j) (fun x => decide (x ≤ q)) L.length bag h.lt, usum_sumN]
  refine sumN_congr (fun j _ => ?_)
  rw [(h j).countP_eq]
  congr 1

end Go.Proofs.YtklicjbpjigfdabGreat
