/- DERIVED. Plain mathematics of reading: the lists as they are filled, one place after the other. -/
import Derived.Test.YtaajcmoenemmlabTextQ
namespace Go.Proofs.Ytaajcmoenemmlab

/-- The sizes, as far as they are read. -/
def szA (hs : List (Nat × Nat)) (j n : Nat) : List Int := (hs.take j).map (fun p => (p.1 : Int)) ++ List.replicate (n - j) 0
/-- The levels, as far as their times are read. -/
def lvA (hs : List (Nat × Nat)) (j n : Nat) : List Lvl := (hs.take j).map (fun p => { items := [], times := p.2 }) ++ List.replicate (n - j) Lvl.none
/-- The levels, as far as their items are read. -/
def lvC (hs : List (Nat × Nat)) (r : List Nat) (j : Nat) : List Lvl := toldLv (hs.take j) r ++ (hs.drop j).map (fun p => { items := [], times := p.2 })

theorem szA_length {hs : List (Nat × Nat)} {j n : Nat} (h : hs.length = n) (hj : j ≤ n) : (szA hs j n).length = n := by simp [szA, h]; omega
theorem lvA_length {hs : List (Nat × Nat)} {j n : Nat} (h : hs.length = n) (hj : j ≤ n) : (lvA hs j n).length = n := by simp [lvA, h]; omega
theorem lvC_length {hs : List (Nat × Nat)} {r : List Nat} {j n : Nat} (h : hs.length = n) (hj : j ≤ n) : (lvC hs r j).length = n := by simp [lvC, toldLv_length, h]; omega
theorem take_snocP {hs : List (Nat × Nat)} {j : Nat} (h : j < hs.length) : hs.take (j + 1) = hs.take j ++ [hs.getD j (0, 0)] := by
  rw [List.take_succ_eq_append_getElem h]; simp [List.getD, h]
theorem szA_set {hs : List (Nat × Nat)} {j n : Nat} (h : hs.length = n) (hj : j < n) : (szA hs j n).set j (((hs.getD j (0, 0)).1 : Nat) : Int) = szA hs (j + 1) n := by
  unfold szA
  obtain ⟨d, hd⟩ : ∃ d, n - j = d + 1 := ⟨n - j - 1, by omega⟩
  rw [List.set_append_right _ _ (by simp; omega), show j - (List.map (fun p : Nat × Nat => (p.1 : Int)) (hs.take j)).length = 0 by simp; omega, hd, List.replicate_succ, List.set_cons_zero, take_snocP (by omega), List.map_append, List.append_assoc, show n - (j + 1) = d by omega]
  rfl
theorem lvA_times {hs : List (Nat × Nat)} {j n : Nat} (h : hs.length = n) (hj : j < n) : setTimes (lvA hs j n) j (hs.getD j (0, 0)).2 = lvA hs (j + 1) n := by
  have hl : (List.map (fun p : Nat × Nat => ({ items := [], times := p.2 } : Lvl)) (hs.take j)).length = j := by simp; omega
  unfold setTimes lvA
  obtain ⟨d, hd⟩ : ∃ d, n - j = d + 1 := ⟨n - j - 1, by omega⟩
  rw [hd, List.replicate_succ, take_snocP (by omega), List.map_append, List.append_assoc, show n - (j + 1) = d by omega]
  generalize List.map (fun p : Nat × Nat => ({ items := [], times := p.2 } : Lvl)) (hs.take j) = A at *
  rw [List.set_append_right _ _ (by omega), show j - A.length = 0 by omega, List.set_cons_zero, List.getD_eq_getElem?_getD, List.getElem?_append_right (by omega), show j - A.length = 0 by omega]
  rfl
theorem lvA_items {hs : List (Nat × Nat)} {j n i : Nat} : ((lvA hs j n).getD i Lvl.none).items = [] := by
  unfold lvA
  rw [List.getD_eq_getElem?_getD]
  cases h : (List.map (fun p : Nat × Nat => ({ items := [], times := p.2 } : Lvl)) (hs.take j) ++ List.replicate (n - j) Lvl.none)[i]? with
  | none => rfl
  | some l =>
    have := List.mem_of_getElem? h
    rw [List.mem_append, List.mem_map, List.mem_replicate] at this
    rcases this with ⟨p, _, rfl⟩ | ⟨_, rfl⟩ <;> rfl
theorem lvA_all {hs : List (Nat × Nat)} {n : Nat} (r : List Nat) (h : hs.length = n) : lvA hs n n = lvC hs r 0 := by
  simp [lvA, lvC, toldLv, List.take_of_length_le (show hs.length ≤ n by omega)]
theorem toldLv_append : ∀ (a b : List (Nat × Nat)) (r : List Nat), toldLv (a ++ b) r = toldLv a r ++ toldLv b (r.drop (8 * hsum a))
  | [], b, r => by simp [toldLv, hsum]
  | (n, t) :: a, b, r => by
    rw [List.cons_append, toldLv, toldLv, toldLv_append a b, List.cons_append, List.drop_drop, hsum, show 8 * n + 8 * hsum a = 8 * (n + hsum a) by omega]
theorem hsum_append : ∀ (a b : List (Nat × Nat)), hsum (a ++ b) = hsum a + hsum b
  | [], b => by simp [hsum]
  | (n, t) :: a, b => by rw [List.cons_append, hsum, hsum, hsum_append a b]; omega
theorem hsum_step {hs : List (Nat × Nat)} {j : Nat} (h : j < hs.length) : hsum (hs.take (j + 1)) = hsum (hs.take j) + (hs.getD j (0, 0)).1 := by
  rw [take_snocP h, hsum_append]; simp [hsum]
theorem lvC_items {hs : List (Nat × Nat)} {r : List Nat} {j n : Nat} (h : hs.length = n) (hj : j < n) : setItems (lvC hs r j) j (toldNums (hs.getD j (0, 0)).1 (r.drop (8 * hsum (hs.take j)))) = lvC hs r (j + 1) := by
  have hjl : j < hs.length := by omega
  have hl : (toldLv (hs.take j) r).length = j := by rw [toldLv_length]; simp; omega
  have hd : hs.drop j = hs.getD j (0, 0) :: hs.drop (j + 1) := by rw [List.drop_eq_getElem_cons hjl]; simp [List.getD, hjl]
  unfold setItems lvC
  rw [hd, take_snocP hjl, toldLv_append]
  generalize hs.getD j (0, 0) = p at *
  obtain ⟨a, b⟩ := p
  generalize toldLv (hs.take j) r = A at *
  rw [List.map_cons, List.set_append_right _ _ (by omega), show j - A.length = 0 by omega, List.set_cons_zero, List.getD_eq_getElem?_getD, List.getElem?_append_right (by omega), show j - A.length = 0 by omega, List.append_assoc]
  rfl
theorem lvC_all {hs : List (Nat × Nat)} {r : List Nat} {n : Nat} (h : hs.length = n) : lvC hs r n = toldLv hs r := by
  simp [lvC, List.take_of_length_le (show hs.length ≤ n by omega), List.drop_eq_nil_of_le (show hs.length ≤ n by omega)]
theorem toldHd_at : ∀ (n : Nat) (r : List Nat) (j : Nat), j < n → (toldHd n r).getD j (0, 0) = (leV ((r.drop (5 * j)).take 1), leV (((r.drop (5 * j)).drop 1).take 4))
  | 0, r, j, h => by omega
  | n + 1, r, 0, h => by simp [toldHd]
  | n + 1, r, j + 1, h => by
    have := toldHd_at n ((r.drop 1).drop 4) j (by omega)
    rw [toldHd, List.getD_cons_succ, this, List.drop_drop, List.drop_drop, show 1 + (4 + 5 * j) = 5 * (j + 1) by omega]
theorem s64_small {n : Nat} (h : n < 9223372036854775808) : s64 n = (n : Int) := by unfold s64; rw [if_pos h]

end Go.Proofs.Ytaajcmoenemmlab
