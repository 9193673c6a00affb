/- DERIVED. Plain mathematics of texts: what is written of a sketch, what a text says, and that the text of a sketch says the sketch. -/
import Derived.Test.YtaajcmoenemmlabSk
namespace Go.Proofs.Ytaajcmoenemmlab

/-- A number's bytes, the lowest first. -/
def leB : Nat → Nat → List Nat
  | 0, _ => []
  | b + 1, n => n % 256 :: leB b (n / 256)
/-- The number of such bytes. -/
def leV : List Nat → Nat
  | [] => 0
  | b :: bs => b + 256 * leV bs
theorem leB_length : ∀ b n, (leB b n).length = b
  | 0, _ => rfl
  | b + 1, n => by simp [leB, leB_length b]
theorem leB_lt : ∀ b n, ∀ x ∈ leB b n, x < 256
  | 0, _, x, h => by simp [leB] at h
  | b + 1, n, x, h => by
    simp only [leB, List.mem_cons] at h
    rcases h with rfl | h
    · exact Nat.mod_lt _ (by decide)
    · exact leB_lt b _ x h
theorem leV_leB : ∀ b n, n < 256 ^ b → leV (leB b n) = n
  | 0, n, h => by simp at h; subst h; rfl
  | b + 1, n, h => by
    have : n / 256 < 256 ^ b := by
      rw [Nat.pow_succ] at h
      exact Nat.div_lt_of_lt_mul (by rw [Nat.mul_comm]; exact h)
    rw [leB, leV, leV_leB b _ this]; omega
theorem leV_lt : ∀ l : List Nat, (∀ x ∈ l, x < 256) → leV l < 256 ^ l.length
  | [], _ => by simp [leV]
  | b :: bs, h => by
    have h1 := leV_lt bs (fun x hx => h x (by simp [hx]))
    have h2 := h b (by simp)
    rw [leV, List.length_cons, Nat.pow_succ]; omega

/-- A number of 64 bits as one without a sign, and back. -/
def u64 (x : Int) : Nat := (x % 18446744073709551616).toNat
def s64 (n : Nat) : Int := if n < 9223372036854775808 then (n : Int) else (n : Int) - 18446744073709551616
theorem u64_lt (x : Int) : u64 x < 256 ^ 8 := by unfold u64; omega
theorem s64_u64 {x : Int} (h1 : -9223372036854775808 ≤ x) (h2 : x ≤ 9223372036854775807) : s64 (u64 x) = x := by
  unfold s64 u64; split <;> omega
theorem s64_bd {n : Nat} (h : n < 256 ^ 8) : -9223372036854775808 ≤ s64 n ∧ s64 n ≤ 9223372036854775807 := by
  unfold s64; split <;> omega

/-- What is written of the levels' sizes and times. -/
def hdrB : List Lvl → List Nat
  | [] => []
  | l :: L => leB 1 l.items.length ++ (leB 4 l.times ++ hdrB L)
def numsB : List Int → List Nat
  | [] => []
  | x :: xs => leB 8 (u64 x) ++ numsB xs
def itemsB : List Lvl → List Nat
  | [] => []
  | l :: L => numsB l.items ++ itemsB L
def endsB (s : Sk) : List Nat := if wsum s.lv = 0 then [] else leB 8 (u64 s.lo) ++ leB 8 (u64 s.hi)
/-- All but the check. -/
def bodyB (s : Sk) : List Nat := [83, 75] ++ (leB 1 s.k ++ (leB 1 s.lv.length ++ (hdrB s.lv ++ (endsB s ++ itemsB s.lv))))
/-- The check. -/
def ckA : List Nat → Nat → Nat
  | [], a => a
  | b :: bs, a => ckA bs ((a + b) % 256)
def ckB : List Nat → Nat → Nat → Nat
  | [], _, c => c
  | b :: bs, a, c => ckB bs ((a + b) % 256) ((c + (a + b) % 256) % 256)
/-- A sketch's text. -/
def writeB (s : Sk) : List Nat := bodyB s ++ (leB 1 (ckA (bodyB s) 0) ++ leB 1 (ckB (bodyB s) 0 0))

/-- What a text says of the levels: how many items, how many times. -/
def toldHd : Nat → List Nat → List (Nat × Nat)
  | 0, _ => []
  | n + 1, r => (leV (r.take 1), leV ((r.drop 1).take 4)) :: toldHd n ((r.drop 1).drop 4)
def toldNums : Nat → List Nat → List Int
  | 0, _ => []
  | n + 1, r => s64 (leV (r.take 8)) :: toldNums n (r.drop 8)
def toldLv : List (Nat × Nat) → List Nat → List Lvl
  | [], _ => []
  | (n, t) :: hs, r => { items := toldNums n r, times := t } :: toldLv hs (r.drop (8 * n))
def hsum : List (Nat × Nat) → Nat
  | [] => 0
  | (n, _) :: hs => n + hsum hs
/-- What a text says. -/
def toldR (k : Nat) (hs : List (Nat × Nat)) (r : List Nat) : Sk :=
  if hsum hs = 0 then { k := k, lv := toldLv hs r, lo := 0, hi := 0 }
  else { k := k, lv := toldLv hs ((r.drop 8).drop 8), lo := s64 (leV (r.take 8)), hi := s64 (leV ((r.drop 8).take 8)) }
def toldS (text : List Nat) : Sk :=
  let r := text.drop 2
  let n := leV ((r.drop 1).take 1)
  toldR (leV (r.take 1)) (toldHd n ((r.drop 1).drop 1)) (((r.drop 1).drop 1).drop (5 * n))

theorem toldHd_length : ∀ n r, (toldHd n r).length = n
  | 0, _ => rfl
  | n + 1, r => by simp [toldHd, toldHd_length n]
theorem toldNums_length : ∀ n r, (toldNums n r).length = n
  | 0, _ => rfl
  | n + 1, r => by simp [toldNums, toldNums_length n]
theorem toldLv_length : ∀ hs r, (toldLv hs r).length = hs.length
  | [], _ => rfl
  | (n, t) :: hs, r => by simp [toldLv, toldLv_length hs]

/-! The text of a sketch says the sketch. -/

theorem le_take (b n : Nat) (r : List Nat) : (leB b n ++ r).take b = leB b n := by
  rw [List.take_append_of_le_length (by rw [leB_length]; exact Nat.le_refl _), List.take_of_length_le (by rw [leB_length]; exact Nat.le_refl _)]
theorem le_drop (b n : Nat) (r : List Nat) : (leB b n ++ r).drop b = r := by
  rw [List.drop_append_of_le_length (by rw [leB_length]; exact Nat.le_refl _), List.drop_eq_nil_of_le (by rw [leB_length]; exact Nat.le_refl _), List.nil_append]
theorem hdrB_length : ∀ L : List Lvl, (hdrB L).length = 5 * L.length
  | [] => rfl
  | l :: L => by simp [hdrB, leB_length, hdrB_length L]; omega
theorem numsB_length : ∀ xs : List Int, (numsB xs).length = 8 * xs.length
  | [] => rfl
  | x :: xs => by simp [numsB, leB_length, numsB_length xs]; omega
theorem itemsB_length : ∀ L : List Lvl, (itemsB L).length = 8 * nsum L
  | [] => rfl
  | l :: L => by simp [itemsB, numsB_length, itemsB_length L, nsum]; omega

/-- What a level needs, so that its text says it. -/
def LvFits (l : Lvl) : Prop := l.items.length < 256 ∧ l.times < 4294967296 ∧ ∀ x ∈ l.items, -9223372036854775808 ≤ x ∧ x ≤ 9223372036854775807
theorem toldHd_hdrB : ∀ (L : List Lvl) (r : List Nat), (∀ l ∈ L, LvFits l) → toldHd L.length (hdrB L ++ r) = L.map fun l => (l.items.length, l.times)
  | [], _, _ => rfl
  | l :: L, r, h => by
    have hl := h l (by simp)
    rw [hdrB, List.length_cons, toldHd, List.append_assoc, List.append_assoc, le_take, le_drop, le_take, le_drop, leV_leB _ _ hl.1, leV_leB _ _ hl.2.1, toldHd_hdrB L r (fun x hx => h x (by simp [hx]))]
    rfl
theorem toldNums_numsB : ∀ (xs : List Int) (r : List Nat), (∀ x ∈ xs, -9223372036854775808 ≤ x ∧ x ≤ 9223372036854775807) → toldNums xs.length (numsB xs ++ r) = xs
  | [], _, _ => rfl
  | x :: xs, r, h => by
    have hx := h x (by simp)
    rw [numsB, List.length_cons, toldNums, List.append_assoc, le_take, le_drop, leV_leB _ _ (u64_lt x), s64_u64 hx.1 hx.2, toldNums_numsB xs r (fun y hy => h y (by simp [hy]))]
theorem numsB_drop (xs : List Int) (r : List Nat) : (numsB xs ++ r).drop (8 * xs.length) = r := by
  rw [← numsB_length, List.drop_append_of_le_length (Nat.le_refl _), List.drop_eq_nil_of_le (Nat.le_refl _), List.nil_append]
theorem toldLv_itemsB : ∀ (L : List Lvl) (r : List Nat), (∀ l ∈ L, LvFits l) → toldLv (L.map fun l => (l.items.length, l.times)) (itemsB L ++ r) = L
  | [], _, _ => rfl
  | l :: L, r, h => by
    have hl := h l (by simp)
    rw [itemsB, List.map_cons, toldLv, List.append_assoc, toldNums_numsB _ _ hl.2.2, numsB_drop, toldLv_itemsB L r (fun x hx => h x (by simp [hx]))]
theorem hsum_map : ∀ L : List Lvl, hsum (L.map fun l => (l.items.length, l.times)) = nsum L
  | [] => rfl
  | l :: L => by simp [hsum, nsum, hsum_map L]
theorem wsum_zero : ∀ L : List Lvl, wsum L = 0 ↔ nsum L = 0
  | [] => by simp [wsum, nsum]
  | l :: L => by have := wsum_zero L; simp only [wsum, nsum]; omega

/-- What a sketch needs, so that its text says it. -/
structure SkFits (s : Sk) : Prop where
  k : s.k < 256
  n : s.lv.length < 256
  lv : ∀ l ∈ s.lv, LvFits l
  lo : -9223372036854775808 ≤ s.lo ∧ s.lo ≤ 9223372036854775807
  hi : -9223372036854775808 ≤ s.hi ∧ s.hi ≤ 9223372036854775807
  none : wsum s.lv = 0 → s.lo = 0 ∧ s.hi = 0

theorem told_body {s : Sk} (h : SkFits s) (r : List Nat) : toldS (bodyB s ++ r) = s := by
  have e0 : (bodyB s ++ r).drop 2 = leB 1 s.k ++ (leB 1 s.lv.length ++ (hdrB s.lv ++ (endsB s ++ (itemsB s.lv ++ r)))) := by simp [bodyB, List.append_assoc]
  have hl := h.n
  unfold toldS
  simp only []
  rw [e0, le_take, le_drop, le_take, le_drop, leV_leB _ _ h.k, leV_leB _ _ h.n, toldHd_hdrB _ _ h.lv, ← hdrB_length, List.drop_append_of_le_length (Nat.le_refl _), List.drop_eq_nil_of_le (Nat.le_refl _), List.nil_append]
  unfold toldR endsB
  rw [hsum_map]
  by_cases hw : wsum s.lv = 0
  · rw [if_pos ((wsum_zero _).1 hw), if_pos hw, List.nil_append, toldLv_itemsB _ _ h.lv]
    obtain ⟨a, b⟩ := h.none hw
    cases s; simp_all
  · rw [if_neg (fun e => hw ((wsum_zero _).2 e)), if_neg hw, List.append_assoc, le_take, le_drop, le_take, le_drop, leV_leB _ _ (u64_lt _), leV_leB _ _ (u64_lt _), toldLv_itemsB _ _ h.lv, s64_u64 h.lo.1 h.lo.2, s64_u64 h.hi.1 h.hi.2]
theorem told_write {s : Sk} (h : SkFits s) : toldS (writeB s) = s := told_body h _

/-! What a text says fits, if it is of bytes. -/

theorem mem_take {α : Type} {l : List α} {x : α} {n : Nat} (h : x ∈ l.take n) : x ∈ l := List.mem_of_mem_take h
theorem leV_take {l : List Nat} (h : ∀ x ∈ l, x < 256) (n : Nat) : leV (l.take n) < 256 ^ n := by
  refine Nat.lt_of_lt_of_le (leV_lt _ (fun x hx => h x (mem_take hx))) (Nat.pow_le_pow_right (by decide) ?_)
  rw [List.length_take]; omega
theorem of_drop {l : List Nat} (h : ∀ x ∈ l, x < 256) (n : Nat) : ∀ x ∈ l.drop n, x < 256 := fun x hx => h x (List.mem_of_mem_drop hx)
theorem toldNums_bd : ∀ (n : Nat) (r : List Nat), (∀ x ∈ r, x < 256) → ∀ x ∈ toldNums n r, -9223372036854775808 ≤ x ∧ x ≤ 9223372036854775807
  | 0, _, _, x, hx => by simp [toldNums] at hx
  | n + 1, r, h, x, hx => by
    simp only [toldNums, List.mem_cons] at hx
    rcases hx with rfl | hx
    · exact s64_bd (leV_take h 8)
    · exact toldNums_bd n _ (of_drop h 8) x hx
theorem toldHd_bd : ∀ (n : Nat) (r : List Nat), (∀ x ∈ r, x < 256) → ∀ p ∈ toldHd n r, p.1 < 256 ∧ p.2 < 4294967296
  | 0, _, _, p, hp => by simp [toldHd] at hp
  | n + 1, r, h, p, hp => by
    simp only [toldHd, List.mem_cons] at hp
    rcases hp with rfl | hp
    · exact ⟨leV_take h 1, leV_take (of_drop h 1) 4⟩
    · exact toldHd_bd n _ (of_drop (of_drop h 1) 4) p hp
theorem toldLv_fits : ∀ (hs : List (Nat × Nat)) (r : List Nat), (∀ x ∈ r, x < 256) → (∀ p ∈ hs, p.1 < 256 ∧ p.2 < 4294967296) → ∀ l ∈ toldLv hs r, LvFits l
  | [], _, _, _, l, hl => by simp [toldLv] at hl
  | (n, t) :: hs, r, h, hp, l, hl => by
    simp only [toldLv, List.mem_cons] at hl
    have h0 := hp (n, t) (by simp)
    rcases hl with rfl | hl
    · exact ⟨by simp only [toldNums_length]; exact h0.1, h0.2, toldNums_bd n r h⟩
    · exact toldLv_fits hs _ (of_drop h _) (fun p hp' => hp p (by simp [hp'])) l hl
theorem nsum_toldLv : ∀ (hs : List (Nat × Nat)) (r : List Nat), nsum (toldLv hs r) = hsum hs
  | [], _ => rfl
  | (n, t) :: hs, r => by simp [toldLv, nsum, hsum, toldNums_length, nsum_toldLv hs]
theorem toldS_fits {t : List Nat} (h : ∀ x ∈ t, x < 256) : SkFits (toldS t) := by
  have h1 := of_drop h 2
  have h2 := of_drop h1 1
  have h3 := of_drop h2 1
  have hn := leV_take h2 1
  have hh := toldHd_bd (leV (((t.drop 2).drop 1).take 1)) _ h3
  have h4 := of_drop h3 (5 * leV (((t.drop 2).drop 1).take 1))
  unfold toldS
  simp only []
  generalize hN : leV (((t.drop 2).drop 1).take 1) = n at *
  have hlen := toldHd_length n (((t.drop 2).drop 1).drop 1)
  generalize toldHd n (((t.drop 2).drop 1).drop 1) = hs at *
  generalize (((t.drop 2).drop 1).drop 1).drop (5 * n) = r at *
  have hk := leV_take h1 1
  unfold toldR
  split
  next e => exact ⟨hk, by simp only [toldLv_length, hlen]; exact hn, toldLv_fits hs r h4 hh, by simp, by simp, fun _ => ⟨rfl, rfl⟩⟩
  next e =>
    refine ⟨hk, by simp only [toldLv_length, hlen]; exact hn, toldLv_fits hs _ (of_drop (of_drop h4 8) 8) hh, s64_bd (leV_take h4 8), s64_bd (leV_take (of_drop h4 8) 8), fun h0 => absurd ?_ e⟩
    rw [wsum_zero, nsum_toldLv] at h0
    exact h0

end Go.Proofs.Ytaajcmoenemmlab
