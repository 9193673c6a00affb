/- DERIVED. Plain mathematics of texts: what is written of a sketch, what a text says, and that the text of a sketch says the sketch. -/
import Derived.Test.YtklicjbpjigfdabSk
namespace Go.Proofs.Ytklicjbpjigfdab

/-- A number's bytes, the lowest first. -/
def leB : Nat → Nat → List Nat
  | 0, _ => []
  | b + 1, n => n % 256 :: leB b (n / 256)
/-- The number of such bytes. -/
def leV : List Nat → Nat
  | [] => 0
  | b :: bs => b + 256 * leV bs
theorem leB_length : ∀ b n, (leB b n).length = b
  | 0, _ => rfl
  | b + 1, n => by simp [leB, leB_length b]
theorem leB_lt : ∀ b n, ∀ x ∈ leB b n, x < 256
  | 0, _, x, h => by simp [leB] at h
  | b + 1, n, x, h => by
    simp only [leB, List.mem_cons] at h
    rcases h with rfl | h
    · exact Nat.mod_lt _ (by decide)
    · exact leB_lt b _ x h
theorem leV_leB : ∀ b n, n < 256 ^ b → leV (leB b n) = n
  | 0, n, h => by simp at h; subst h; rfl
  | b + 1, n, h => by
    have : n / 256 < 256 ^ b := by
      rw [Nat.pow_succ] at h
      exact Nat.div_lt_of_lt_mul (by rw [Nat.mul_comm]; exact h)
    rw [leB, leV, leV_leB b _ this]; omega
theorem leV_lt : ∀ l : List Nat, (∀ x ∈ l, x < 256) → leV l < 256 ^ l.length
  | [], _ => by simp [leV]
  | b :: bs, h => by
    have h1 := leV_lt bs (fun x hx => h x (by simp [hx]))
    have h2 := h b (by simp)
    rw [leV, List.length_cons, Nat.pow_succ]; omega

/-- A number of 64 bits as one without a sign, and back. -/
def u64 (x : Int) : Nat := (x % 18446744073709551616).toNat
def s64 (n : Nat) : Int := if n < 9223372036854775808 then (n : Int) else (n : Int) - 18446744073709551616
theorem u64_lt (x : Int) : u64 x < 256 ^ 8 := by unfold u64; omega
theorem s64_u64 {x : Int} (h1 : -9223372036854775808 ≤ x) (h2 : x ≤ 9223372036854775807) : s64 (u64 x) = x := by
  unfold s64 u64; split <;> omega
theorem s64_bd {n : Nat} (h : n < 256 ^ 8) : -9223372036854775808 ≤ s64 n ∧ s64 n ≤ 9223372036854775807 := by
  unfold s64; split <;> omega

/-- What is written of the levels' sizes and times. -/
def hdrB : List Lvl → List Nat
  | [] => []
  | l :: L => leB 1 l.items.length ++ (leB 4 l.times ++ hdrB L)
def numsB : List Int → List Nat
  | [] => []
  | x :: xs => leB 8 (u64 x) ++ numsB xs
def itemsB : List Lvl → List Nat
  | [] => []
  | l :: L => numsB l.items ++ itemsB L
def endsB (s : Sk) : List Nat := if wsum s.lv = 0 then [] else leB 8 (u64 s.lo) ++ leB 8 (u64 s.hi)
/-- All but the check. -/
def bodyB (s : Sk) : List Nat := [83, 75] ++ (leB 1 s.k ++ (leB 1 s.lv.length ++ (hdrB s.lv ++ (endsB s ++ itemsB s.lv))))
/-- The check. -/
def ckA : List Nat → Nat → Nat
  | [], a => a
  | b :: bs, a => ckA bs ((a + b) % 256)
def ckB : List Nat → Nat → Nat → Nat
  | [], _, c => c
  | b :: bs, a, c => ckB bs ((a + b) % 256) ((c + (a + b) % 256) % 256)
/-- A sketch's text. -/
def writeB (s : Sk) : List Nat := bodyB s ++ (leB 1 (ckA (bodyB s) 0) ++ leB 1 (ckB (bodyB s) 0 0))

/-- What a text says of the levels: how many items, how many times. -/
def toldHd : Nat → List Nat → List (Nat × Nat)
  | 0, _ => []
  | n + 1, r => (leV (r.take 1), leV ((r.drop 1).take 4)) :: toldHd n ((r.drop 1).drop 4)
def toldNums : Nat → List Nat → List Int
  | 0, _ => []
  | n + 1, r => s64 (leV (r.take 8)) :: toldNums n (r.drop 8)
def toldLv : List (Nat × Nat) → List Nat → List Lvl
  | [], _ => []
  | (n, t) :: hs, r => { items := toldNums n r, times := t } :: toldLv hs (r.drop (8 * n))
def hsum : List (Nat × Nat) → Nat
  | [] => 0
  | (n, _) :: hs => n + hsum hs
/-- What a text says. -/
def toldR (k : Nat) (hs : List (Nat × Nat)) (r : List Nat) : Sk :=
  if hsum hs = 0 then { k := k, lv := toldLv hs r, lo := 0, hi := 0 }
  else { k := k, lv := toldLv hs ((r.drop 8).drop 8), lo := s64 (leV (r.take 8)), hi := s64 (leV ((r.drop 8).take 8)) }
def toldS (text : List Nat) : Sk :=
  let r := text.drop 2
  let n := leV ((r.drop 1).take 1)
  toldR (leV (r.take 1)) (toldHd n ((r.drop 1).drop 1)) (((r.drop 1).drop 1).drop (5 * n))

theorem toldHd_length : ∀ n r, (toldHd n r).length = n
  | 0, _ => rfl
  | n + 1, r => by simp [toldHd, toldHd_length n]
theorem toldNums_length : ∀ n r, (toldNums n r).length = n
  | 0, _ => rfl
  | n + 1, r => by simp [toldNums, toldNums_length n]
theorem toldLv_length : ∀ hs r, (toldLv hs r).length = hs.length
  | [], _ => rfl
  | (n, t) :: hs, r => by simp [toldLv, toldLv_length hs]

/-! The text of a sketch says the sketch. -/

theorem le_take (b n : Nat) (r : List Nat) : (leB b n ++ r).take b = leB b n := by
  rw [List.take_append_of_le_length (by rw [leB_length]; exact Nat.le_refl _), List.take_of_length_le (by rw [leB_length]; exact Nat.le_refl _)]
theorem le_drop (b n : Nat) (r : List Nat) : (leB b n ++ r).drop b = r := by
  rw [List.drop_append_of_le_length (by rw [leB_length]; exact Nat.le_refl _), List.drop_eq_nil_of_le (by rw [leB_length]; exact Nat.le_refl _), List.nil_append]
theorem hdrB_length : ∀ L : List Lvl, (hdrB L).length = 5 * L.length
  | [] => rfl
  | l :: L => by simp [hdrB, leB_length, hdrB_length L]; omega
theorem numsB_length : ∀ xs : List Int, (numsB xs).length = 8 * xs.length
  | [] => rfl
  | x :: xs => by simp [numsB, leB_length, numsB_length xs]; omega
theorem itemsB_length : ∀ L : List Lvl, (itemsB L).length = 8 * nsum L
  | [] => rfl
  | l :: L => by simp [itemsB, numsB_length, itemsB_length L, nsum]; omega

/-- What a level needs, so that its text says it. -/
def LvFits (l : Lvl) : Prop := l.items.length < 256 ∧ l.times < 4294967296 ∧ ∀ x ∈ l.items, -9223372036854775808 ≤ x ∧ x ≤ 9223372036854775807
theorem toldHd_hdrB : ∀ (L : List Lvl) (r : List Nat), (∀ l ∈ L, LvFits l) → toldHd L.length (hdrB L ++ r) = L.map fun l => (l.items.length, l.times)
  | [], _, _ => rfl
  | l :: L, r, h => by
    have hl := h l (by simp)
    rw [hdrB, List.length_cons, toldHd, List.append_assoc, List.append_assoc, le_take, le_drop, le_take, le_drop, leV_leB _ _ hl.1, leV_leB _ _ hl.2.1, toldHd_hdrB L r (fun x hx => h x (by simp [hx]))]
    rfl
theorem toldNums_numsB : ∀ (xs : List Int) (r : List Nat), (∀ x ∈ xs, -9223372036854775808 ≤ x ∧ x ≤ 9223372036854775807) → toldNums xs.length (numsB xs ++ r) = xs
  | [], _, _ => rfl
  | x :: xs, r, h => by
    have hx := h x (by simp)
    rw [numsB, List.length_cons, toldNums, List.append_assoc, le_take, le_drop, leV_leB _ _ (u64_lt x), s64_u64 hx.1 hx.2, toldNums_numsB xs r (fun y hy => h y (by simp [hy]))]
theorem numsB_drop (xs : List Int) (r : List Nat) : (numsB xs ++ r).drop (8 * xs.length) = r := by
  rw [← numsB_length, List.drop_append_of_le_length (Nat.le_refl _), List.drop_eq_nil_of_le (Nat.le_refl _), List.nil_append]
theorem toldLv_itemsB : ∀ (L : List Lvl) (r : List Nat), (∀ l ∈ L, LvFits l) → toldLv (L.map fun l => (l.items.length, l.times)) (itemsB L ++ r) = L
  | [], _, _ => rfl
  | l :: L, r, h => by
    have hl := h l (by simp)
    rw [itemsB, List.map_cons, toldLv, List.append_assoc, toldNums_numsB _ _ hl.2.2, numsB_drop, toldLv_itemsB L r (fun x hx => h x (by simp [hx]))]
theorem hsum_map : ∀ L : List Lvl, hsum (L.map fun l => (l.items.length, l.times)) = nsum L
  | [] => rfl
  | l :: L => by simp [hsum, nsum, hsum_map L]
theorem wsum_zero : ∀ L : List Lvl, wsum L = 0 ↔ nsum L = 0
  | [] => by simp [wsum, nsum]
  | l :: L => by have := wsum_zero L; simp only [wsum, nsum]; omega

/-- What a sketch needs, so that its text says it. -/
structure SkFits (s : Sk) : Prop where
  k : s.k < 256
  n : s.lv.length < 256
  lv : ∀ l ∈ s.lv, LvFits l
  lo : -9223372036854775808 ≤ s.lo ∧ s.lo ≤ 9223372036854775807
  hi : -9223372036854775808 ≤ s.hi ∧ s.hi ≤ 9223372036854775807
  none : wsum s.lv = 0 → s.lo = 0 ∧ s.hi = 0

theorem told_body {s : Sk} (h : SkFits s) (r : List Nat) : toldS (bodyB s ++ r) = s := by
  have e0 : (bodyB s ++ r).drop 2 = leB 1 s.k ++ (leB 1 s.lv.length ++ (hdrB s.lv ++ (endsB s ++ (itemsB s.lv ++ r)))) := by simp [bodyB, List.append_assoc]
  have hl := h.n
  unfold toldS
  simp only []
  rw [e0, le_take, le_drop, le_take, le_drop, leV_leB _ _ h.k, leV_leB _ _ h.n, toldHd_hdrB _ _ h.lv, ← hdrB_length, List.drop_append_of_le_length (Nat.le_refl _), List.drop_eq_nil_of_le (Nat.le_refl _), List.nil_append]
  unfold toldR endsB
  rw [hsum_map]
  by_cases hw : wsum s.lv = 0
  · rw [if_pos ((wsum_zero _).1 hw), if_pos hw, List.nil_append, toldLv_itemsB _ _ h.lv]
    obtain ⟨a, b⟩ := h.none hw
    cases s; simp_all
  · rw [if_neg (fun e => hw ((wsum_zero _).2 e)), if_neg hw, List.append_assoc, le_take, le_drop, le_take, le_drop, leV_leB _ _ (u64_lt _), leV_leB _ _ (u64_lt _), toldLv_itemsB _ _ h.lv, s64_u64 h.lo.1 h.lo.2, s64_u64 h.hi.1 h.hi.2]
theorem told_write {s : Sk} (h : SkFits s) : toldS (writeB s) = s := told_body h _

/-! What a text says fits, if it is of bytes. -/

theorem mem_take {α : Type} {l : List α} {x : α} {n : Nat} (h : x ∈ l.take n) : x ∈ l := List.mem_of_mem_take h
theorem leV_take {l : List Nat} (h : ∀ x ∈ l, x < 256) (n : Nat) : leV (l.take n) < 256 ^ n := by
  refine Nat.lt_of_lt_of_le (leV_lt _ (fun x hx => h x (mem_take hx))) (Nat.pow_le_pow_right (by decide) ?_)
  rw [List.length_take]; omega
theorem of_drop {l : List Nat} (h : ∀ x ∈ l, x < 256) (n : Nat) : ∀ x ∈ l.drop n, x < 256 := fun x hx => h x (List.mem_of_mem_drop hx)
theorem toldNums_bd : ∀ (n : Nat) (r : List Nat), (∀ x ∈ r, x < 256) → ∀ x ∈ toldNums n r, -9223372036854775808 ≤ x ∧ x ≤ 9223372036854775807
  | 0, _, _, x, hx => by simp [toldNums] at hx
  | n + 1, r, h, x, hx => by
    simp only [toldNums, List.mem_cons] at hx
    rcases hx with rfl | hx
    · exact s64_bd (leV_take h 8)
    · exact toldNums_bd n _ (of_drop h 8) x hx
theorem toldHd_bd : ∀ (n : Nat) (r : List Nat), (∀ x ∈ r, x < 256) → ∀ p ∈ toldHd n r, p.1 < 256 ∧ p.2 < 4294967296
  | 0, _, _, p, hp => by simp [toldHd] at hp
  | n + 1, r, h, p, hp => by
    simp only [toldHd, List.mem_cons] at hp
    rcases hp with rfl | hp
    · exact ⟨leV_take h 1, leV_take (of_drop h 1) 4⟩
    · exact toldHd_bd n _ (of_drop (of_drop h 1) 4) p hp
theorem toldLv_fits : ∀ (hs : List (Nat × Nat)) (r : List Nat), (∀ x ∈ r, x < 256) → (∀ p ∈ hs, p.1 < 256 ∧ p.2 < 4294967296) → ∀ l ∈ toldLv hs r, LvFits l
  | [], _, _, _, l, hl => by simp [toldLv] at hl
  | (n, t) :: hs, r, h, hp, l, hl => by
    simp only [toldLv, List.mem_cons] at hl
    have h0 := hp (n, t) (by simp)
    rcases hl with rfl | hl
    · exact ⟨by simp only [toldNums_length]; exact h0.1, h0.2, toldNums_bd n r h⟩
    · exact toldLv_fits hs _ (of_drop h _) (fun p hp' => hp p (by simp [hp'])) l hl
theorem nsum_toldLv : ∀ (hs : List (Nat × Nat)) (r : List Nat), nsum (toldLv hs r) = hsum hs
  | [], _ => rfl
  | (n, t) :: hs, r => by simp [toldLv, nsum, hsum, toldNums_length, nsum_toldLv hs]
theorem toldS_fits {t : List Nat} (h : ∀ x ∈ t, x < 256) : SkFits (toldS t) := by
  have h1 := of_drop h 2
  have h2 := of_drop h1 1
  have h3 := of_drop h2 1
  have hn := leV_take h2 1
  have hh := toldHd_bd (leV (((t.drop 2).drop 1).take 1)) _ h3
  have h4 := of_drop h3 (5 * leV (((t.drop 2).drop 1).take 1))
  unfold toldS
  simp only []
  generalize hN : leV (((t.drop 2).drop 1).take 1) = n at *
  have hlen := toldHd_length n (((t.drop 2).drop 1).drop 1)
  generalize toldHd n (((t.drop 2).drop 1).drop 1) = hs at *
  generalize (((t.drop 2).drop 1).drop 1).drop (5 * n) = r at *
  have hk := leV_take h1 1
  unfold toldR
  split
  next e => exact ⟨hk, by simp only [toldLv_length, hlen]; exact hn, toldLv_fits hs r h4 hh, by simp, by simp, fun _ => ⟨rfl, rfl⟩⟩
  next e =>
    refine ⟨hk, by simp only [toldLv_length, hlen]; exact hn, toldLv_fits hs _ (of_drop (of_drop h4 8) 8) hh, s64_bd (leV_take h4 8), s64_bd (leV_take (of_drop h4 8) 8), fun h0 => absurd ?_ e⟩
    rw [wsum_zero, nsum_toldLv] at h0
    exact h0

end Go.Proofs.Ytklicjbpjigfdab

/- DERIVED. Plain mathematics of texts: which are a sketch's; a text with one byte changed, one missing, one more is none. -/
namespace Go.Proofs.Ytklicjbpjigfdab

/-- Has enough gone up for each level to have been thinned so often? -/
def timesB (k n : Nat) : Nat → List Lvl → Bool
  | _, [] => true
  | h, l :: L => decide (l.times * 2 ^ h * capOf k (n - 1 - h) ≤ 2 ^ (h + 1) * wsum L) && timesB k n (h + 1) L
def risesB : List Int → Bool
  | [] => true
  | [_] => true
  | x :: y :: r => decide (x ≤ y) && risesB (y :: r)
def lvB (lo hi : Int) (l : Lvl) : Bool := l.items.all (fun x => decide (lo ≤ x) && decide (x ≤ hi)) && risesB l.items
def hasIt (x : Int) (L : List Lvl) : Bool := L.any fun l => l.items.any fun y => y == x
def thinnedB (L : List Lvl) : Bool := L.any fun l => decide (0 < l.times)
def shapeB (s : Sk) : Bool := decide (2 ≤ s.k ∧ s.k ≤ 64 ∧ 1 ≤ s.lv.length ∧ s.lv.length ≤ 29 ∧ (1 < s.lv.length → 0 < (s.lv.getD (s.lv.length - 1) Lvl.none).items.length) ∧ nsum s.lv ≤ capSum s.k s.lv.length ∧ wsum s.lv ≤ 268435456)
def endsOK (s : Sk) : Bool := decide (nsum s.lv = 0) || thinnedB s.lv || (hasIt s.lo s.lv && hasIt s.hi s.lv)
/-- Is it as a sketch must be? -/
def soundB (s : Sk) : Bool := shapeB s && (timesB s.k s.lv.length 0 s.lv && (s.lv.all (lvB s.lo s.hi) && endsOK s))
/-- Is it a sketch's text? -/
def isText (t : List Nat) : Bool := soundB (toldS t) && decide (writeB (toldS t) = t)

theorem ckA_sum : ∀ (b : List Nat) (a : Nat), a < 256 → ckA b a = (a + b.sum) % 256
  | [], a, h => by simp [ckA]; omega
  | x :: b, a, h => by
    rw [ckA, ckA_sum b _ (Nat.mod_lt _ (by decide)), List.sum_cons]
    omega
theorem ckA_lt (b : List Nat) : ckA b 0 < 256 := by rw [ckA_sum _ _ (by decide)]; omega
theorem ckB_lt : ∀ (b : List Nat) (a c : Nat), c < 256 → ckB b a c < 256
  | [], a, c, h => h
  | x :: b, a, c, h => by rw [ckB]; exact ckB_lt b _ _ (Nat.mod_lt _ (by decide))
theorem writeB_eq (s : Sk) : writeB s = bodyB s ++ [ckA (bodyB s) 0, ckB (bodyB s) 0 0] := by
  have h1 := ckA_lt (bodyB s)
  have h2 := ckB_lt (bodyB s) 0 0 (by decide)
  simp [writeB, leB, Nat.mod_eq_of_lt h1, Nat.mod_eq_of_lt h2]
theorem hdrB_lt : ∀ (L : List Lvl), ∀ x ∈ hdrB L, x < 256
  | [], x, h => by simp [hdrB] at h
  | l :: L, x, h => by
    simp only [hdrB, List.mem_append] at h
    rcases h with h | h | h
    · exact leB_lt _ _ x h
    · exact leB_lt _ _ x h
    · exact hdrB_lt L x h
theorem numsB_lt : ∀ (l : List Int), ∀ x ∈ numsB l, x < 256
  | [], x, h => by simp [numsB] at h
  | y :: l, x, h => by
    simp only [numsB, List.mem_append] at h
    rcases h with h | h
    · exact leB_lt _ _ x h
    · exact numsB_lt l x h
theorem itemsB_lt : ∀ (L : List Lvl), ∀ x ∈ itemsB L, x < 256
  | [], x, h => by simp [itemsB] at h
  | l :: L, x, h => by
    simp only [itemsB, List.mem_append] at h
    rcases h with h | h
    · exact numsB_lt _ x h
    · exact itemsB_lt L x h
theorem bodyB_lt (s : Sk) : ∀ x ∈ bodyB s, x < 256 := by
  intro x h
  simp only [bodyB, List.mem_append] at h
  rcases h with h | h | h | h | h | h
  · simp at h; omega
  · exact leB_lt _ _ x h
  · exact leB_lt _ _ x h
  · exact hdrB_lt _ x h
  · unfold endsB at h
    split at h
    · simp at h
    · rw [List.mem_append] at h
      rcases h with h | h <;> exact leB_lt _ _ x h
  · exact itemsB_lt _ x h
theorem writeB_lt (s : Sk) : ∀ x ∈ writeB s, x < 256 := by
  intro x h
  simp only [writeB, List.mem_append] at h
  rcases h with h | h | h
  · exact bodyB_lt s x h
  · exact leB_lt _ _ x h
  · exact leB_lt _ _ x h
theorem writeB_length (s : Sk) : (writeB s).length = (bodyB s).length + 2 := by simp [writeB_eq]
theorem bodyB_length (s : Sk) : (bodyB s).length = 4 + 5 * s.lv.length + (if wsum s.lv = 0 then 0 else 16) + 8 * nsum s.lv := by
  simp only [bodyB, List.length_append, leB_length, hdrB_length, itemsB_length, endsB]
  split <;> simp [leB_length] <;> omega

/-- A text of a sketch that begins another's is that one. -/
theorem write_prefix {s s' : Sk} (h : SkFits s) (h' : SkFits s') {r : List Nat} (e : writeB s' ++ r = writeB s) : r = [] := by
  have e1 : toldS (writeB s' ++ r) = s' := by rw [writeB, List.append_assoc]; exact told_body h' _
  rw [e, told_write h] at e1
  subst e1
  have := congrArg List.length e
  rw [List.length_append] at this
  exact List.eq_nil_of_length_eq_zero (by omega)

theorem sum_set : ∀ (b : List Nat) (i y : Nat), i < b.length → (b.set i y).sum + b.getD i 0 = b.sum + y
  | [], i, y, h => by simp at h
  | x :: b, 0, y, h => by simp [List.sum_cons]; omega
  | x :: b, i + 1, y, h => by
    have := sum_set b i y (by simpa using h)
    simp only [List.set_cons_succ, List.sum_cons, List.getD_cons_succ]; omega

/-- A text of a sketch with one byte changed is no sketch's. -/
theorem write_changed {s s' : Sk} {i y : Nat} (hi : i < (writeB s).length) (hy : y < 256) (hne : y ≠ (writeB s).getD i 0) (e : writeB s' = (writeB s).set i y) : False := by
  have hl : (bodyB s').length = (bodyB s).length := by
    have := congrArg List.length e
    rw [List.length_set, writeB_length, writeB_length] at this
    omega
  by_cases hb : i < (bodyB s).length
  · have e2 : (writeB s).set i y = (bodyB s).set i y ++ [ckA (bodyB s) 0, ckB (bodyB s) 0 0] := by
      rw [writeB_eq, List.set_append_left _ _ hb]
    rw [e2, writeB_eq] at e
    obtain ⟨h1, h2⟩ := List.append_inj e (by rw [List.length_set]; exact hl)
    have h3 : ckA (bodyB s') 0 = ckA (bodyB s) 0 := by simpa using (List.cons_eq_cons.1 h2).1
    rw [h1, ckA_sum _ _ (by decide), ckA_sum _ _ (by decide)] at h3
    have h4 := sum_set (bodyB s) i y hb
    have h5 : (bodyB s).getD i 0 < 256 := by
      rw [List.getD_eq_getElem?_getD, List.getElem?_eq_getElem hb]
      exact bodyB_lt s _ (List.getElem_mem hb)
    have h6 : (writeB s).getD i 0 = (bodyB s).getD i 0 := by
      rw [writeB_eq, List.getD_eq_getElem?_getD, List.getD_eq_getElem?_getD, List.getElem?_append_left hb]
    rw [h6] at hne
    omega
  · have e2 : (writeB s).set i y = bodyB s ++ ([ckA (bodyB s) 0, ckB (bodyB s) 0 0].set (i - (bodyB s).length) y) := by
      rw [writeB_eq, List.set_append_right _ _ (by omega)]
    rw [e2, writeB_eq] at e
    obtain ⟨h1, h2⟩ := List.append_inj e hl
    rw [h1] at h2
    have h3 : [ckA (bodyB s) 0, ckB (bodyB s) 0 0].getD (i - (bodyB s).length) 0 = y := by
      rw [h2, List.getD_eq_getElem?_getD, List.getElem?_set_self (by rw [writeB_length] at hi; simp; omega)]; rfl
    apply hne
    rw [writeB_eq, List.getD_eq_getElem?_getD, List.getElem?_append_right (by omega), ← List.getD_eq_getElem?_getD, h3]

/-- The three of them, as texts that are read. -/
theorem isText_fits {t : List Nat} (hb : ∀ x ∈ t, x < 256) (h : isText t = true) : SkFits (toldS t) ∧ writeB (toldS t) = t := by
  simp only [isText, Bool.and_eq_true, decide_eq_true_eq] at h
  exact ⟨toldS_fits hb, h.2⟩
theorem not_changed {s : Sk} {i y : Nat} (hi : i < (writeB s).length) (hy : y < 256) (hne : y ≠ (writeB s).getD i 0) : isText ((writeB s).set i y) = false := by
  cases h : isText ((writeB s).set i y) with
  | false => rfl
  | true =>
    simp only [isText, Bool.and_eq_true, decide_eq_true_eq] at h
    exact (write_changed hi hy hne h.2).elim
theorem not_cut {s : Sk} (h : SkFits s) : isText ((writeB s).take ((writeB s).length - 1)) = false := by
  cases h' : isText ((writeB s).take ((writeB s).length - 1)) with
  | false => rfl
  | true =>
    obtain ⟨h1, h2⟩ := isText_fits (fun x hx => writeB_lt s x (mem_take hx)) h'
    have hl := writeB_length s
    have := write_prefix h h1 (r := (writeB s).drop ((writeB s).length - 1)) (by rw [h2, List.take_append_drop])
    have := congrArg List.length this
    simp at this
    omega
theorem not_more {s : Sk} (h : SkFits s) {y : Nat} (hy : y < 256) : isText (writeB s ++ [y]) = false := by
  cases h' : isText (writeB s ++ [y]) with
  | false => rfl
  | true =>
    obtain ⟨h1, h2⟩ := isText_fits (fun x hx => by
      rw [List.mem_append] at hx
      rcases hx with hx | hx
      · exact writeB_lt s x hx
      · simp at hx; omega) h'
    have e : toldS (writeB s ++ [y]) = s := by rw [writeB, List.append_assoc]; exact told_body h _
    rw [e] at h2
    have := congrArg List.length h2
    simp at this
theorem is_text {s : Sk} (h : SkFits s) (hs : soundB s = true) : isText (writeB s) = true := by
  simp only [isText, told_write h, hs, decide_true, Bool.and_self]

end Go.Proofs.Ytklicjbpjigfdab

/- DERIVED. Plain mathematics of reading: the lists as they are filled, one place after the other. -/
namespace Go.Proofs.Ytklicjbpjigfdab

/-- The sizes, as far as they are read. -/
def szA (hs : List (Nat × Nat)) (j n : Nat) : List Int := (hs.take j).map (fun p => (p.1 : Int)) ++ List.replicate (n - j) 0
/-- The levels, as far as their times are read. -/
def lvA (hs : List (Nat × Nat)) (j n : Nat) : List Lvl := (hs.take j).map (fun p => { items := [], times := p.2 }) ++ List.replicate (n - j) Lvl.none
/-- The levels, as far as their items are read. -/
def lvC (hs : List (Nat × Nat)) (r : List Nat) (j : Nat) : List Lvl := toldLv (hs.take j) r ++ (hs.drop j).map (fun p => { items := [], times := p.2 })

theorem szA_length {hs : List (Nat × Nat)} {j n : Nat} (h : hs.length = n) (hj : j ≤ n) : (szA hs j n).length = n := by simp [szA, h]; omega
theorem lvA_length {hs : List (Nat × Nat)} {j n : Nat} (h : hs.length = n) (hj : j ≤ n) : (lvA hs j n).length = n := by simp [lvA, h]; omega
theorem lvC_length {hs : List (Nat × Nat)} {r : List Nat} {j n : Nat} (h : hs.length = n) (hj : j ≤ n) : (lvC hs r j).length = n := by simp [lvC, toldLv_length, h]; omega
theorem take_snocP {hs : List (Nat × Nat)} {j : Nat} (h : j < hs.length) : hs.take (j + 1) = hs.take j ++ [hs.getD j (0, 0)] := by
  rw [List.take_succ_eq_append_getElem h]; simp [List.getD, h]
theorem szA_set {hs : List (Nat × Nat)} {j n : Nat} (h : hs.length = n) (hj : j < n) : (szA hs j n).set j (((hs.getD j (0, 0)).1 : Nat) : Int) = szA hs (j + 1) n := by
  unfold szA
  obtain ⟨d, hd⟩ : ∃ d, n - j = d + 1 := ⟨n - j - 1, by omega⟩
  rw [List.set_append_right _ _ (by simp; omega), show j - (List.map (fun p : Nat × Nat => (p.1 : Int)) (hs.take j)).length = 0 by simp; omega, hd, List.replicate_succ, List.set_cons_zero, take_snocP (by omega), List.map_append, List.append_assoc, show n - (j + 1) = d by omega]
  rfl
theorem lvA_times {hs : List (Nat × Nat)} {j n : Nat} (h : hs.length = n) (hj : j < n) : setTimes (lvA hs j n) j (hs.getD j (0, 0)).2 = lvA hs (j + 1) n := by
  have hl : (List.map (fun p : Nat × Nat => ({ items := [], times := p.2 } : Lvl)) (hs.take j)).length = j := by simp; omega
  unfold setTimes lvA
  obtain ⟨d, hd⟩ : ∃ d, n - j = d + 1 := ⟨n - j - 1, by omega⟩
  rw [hd, List.replicate_succ, take_snocP (by omega), List.map_append, List.append_assoc, show n - (j + 1) = d by omega]
  generalize List.map (fun p : Nat × Nat => ({ items := [], times := p.2 } : Lvl)) (hs.take j) = A at *
  rw [List.set_append_right _ _ (by omega), show j - A.length = 0 by omega, List.set_cons_zero, List.getD_eq_getElem?_getD, List.getElem?_append_right (by omega), show j - A.length = 0 by omega]
  rfl
theorem lvA_items {hs : List (Nat × Nat)} {j n i : Nat} : ((lvA hs j n).getD i Lvl.none).items = [] := by
  unfold lvA
  rw [List.getD_eq_getElem?_getD]
  cases h : (List.map (fun p : Nat × Nat => ({ items := [], times := p.2 } : Lvl)) (hs.take j) ++ List.replicate (n - j) Lvl.none)[i]? with
  | none => rfl
  | some l =>
    have := List.mem_of_getElem? h
    rw [List.mem_append, List.mem_map, List.mem_replicate] at this
    rcases this with ⟨p, _, rfl⟩ | ⟨_, rfl⟩ <;> rfl
theorem lvA_all {hs : List (Nat × Nat)} {n : Nat} (r : List Nat) (h : hs.length = n) : lvA hs n n = lvC hs r 0 := by
  simp [lvA, lvC, toldLv, List.take_of_length_le (show hs.length ≤ n by omega)]
theorem toldLv_append : ∀ (a b : List (Nat × Nat)) (r : List Nat), toldLv (a ++ b) r = toldLv a r ++ toldLv b (r.drop (8 * hsum a))
  | [], b, r => by simp [toldLv, hsum]
  | (n, t) :: a, b, r => by
    rw [List.cons_append, toldLv, toldLv, toldLv_append a b, List.cons_append, List.drop_drop, hsum, show 8 * n + 8 * hsum a = 8 * (n + hsum a) by omega]
theorem hsum_append : ∀ (a b : List (Nat × Nat)), hsum (a ++ b) = hsum a + hsum b
  | [], b => by simp [hsum]
  | (n, t) :: a, b => by rw [List.cons_append, hsum, hsum, hsum_append a b]; omega
theorem hsum_step {hs : List (Nat × Nat)} {j : Nat} (h : j < hs.length) : hsum (hs.take (j + 1)) = hsum (hs.take j) + (hs.getD j (0, 0)).1 := by
  rw [take_snocP h, hsum_append]; simp [hsum]
theorem lvC_items {hs : List (Nat × Nat)} {r : List Nat} {j n : Nat} (h : hs.length = n) (hj : j < n) : setItems (lvC hs r j) j (toldNums (hs.getD j (0, 0)).1 (r.drop (8 * hsum (hs.take j)))) = lvC hs r (j + 1) := by
  have hjl : j < hs.length := by omega
  have hl : (toldLv (hs.take j) r).length = j := by rw [toldLv_length]; simp; omega
  have hd : hs.drop j = hs.getD j (0, 0) :: hs.drop (j + 1) := by rw [List.drop_eq_getElem_cons hjl]; simp [List.getD, hjl]
  unfold setItems lvC
  rw [hd, take_snocP hjl, toldLv_append]
  generalize hs.getD j (0, 0) = p at *
  obtain ⟨a, b⟩ := p
  generalize toldLv (hs.take j) r = A at *
  rw [List.map_cons, List.set_append_right _ _ (by omega), show j - A.length = 0 by omega, List.set_cons_zero, List.getD_eq_getElem?_getD, List.getElem?_append_right (by omega), show j - A.length = 0 by omega, List.append_assoc]
  rfl
theorem lvC_all {hs : List (Nat × Nat)} {r : List Nat} {n : Nat} (h : hs.length = n) : lvC hs r n = toldLv hs r := by
  simp [lvC, List.take_of_length_le (show hs.length ≤ n by omega), List.drop_eq_nil_of_le (show hs.length ≤ n by omega)]
theorem toldHd_at : ∀ (n : Nat) (r : List Nat) (j : Nat), j < n → (toldHd n r).getD j (0, 0) = (leV ((r.drop (5 * j)).take 1), leV (((r.drop (5 * j)).drop 1).take 4))
  | 0, r, j, h => by omega
  | n + 1, r, 0, h => by simp [toldHd]
  | n + 1, r, j + 1, h => by
    have := toldHd_at n ((r.drop 1).drop 4) j (by omega)
    rw [toldHd, List.getD_cons_succ, this, List.drop_drop, List.drop_drop, show 1 + (4 + 5 * j) = 5 * (j + 1) by omega]
theorem s64_small {n : Nat} (h : n < 9223372036854775808) : s64 n = (n : Int) := by unfold s64; rw [if_pos h]

end Go.Proofs.Ytklicjbpjigfdab
