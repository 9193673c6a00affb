/- DERIVED. The document's own sketch in memory: its bag of items, its times. -/
import Derived.Test.YtklicjbpjigfdabGreatQ0
import Derived.Test.YtklicjbpjigfdabGreatQ6
import Derived.Test.YtklicjbpjigfdabGreatQ1
import Derived.Deep.QuietTactic
import Derived.BigQuiet
import Derived.WalkSmall
import Derived.Deep.DrawnRows
namespace Go.Proofs.YtklicjbpjigfdabGreat
open Go.RowKit

theorem Tryz.infoItem : (Tryz.prog.info? 126).map (fun i => (i.zero, i.size, i.bytes)) = some (some (.agg #[.int .i64 0, .int .i64 0]), 2, 16) := by kernel_rfl

/-- The cells of a bag. -/
def itCells : List (Int × Nat) → List Value
  | [] => []
  | z :: b => .int .i64 z.1 :: .int .i64 (z.2 : Int) :: itCells b
theorem itCells_length : ∀ b : List (Int × Nat), (itCells b).length = b.length * 2
  | [] => rfl
  | z :: b => by simp only [itCells, List.length_cons, itCells_length b]; omega
theorem itCells_append : ∀ a b : List (Int × Nat), itCells (a ++ b) = itCells a ++ itCells b
  | [], b => rfl
  | z :: a, b => by simp only [List.cons_append, itCells, itCells_append a b]
theorem itCells_at0 : ∀ (b : List (Int × Nat)) (j : Nat), j < b.length → (itCells b)[j * 2]? = some (.int .i64 (b.getD j (0, 0)).1)
  | [], j, h => by simp at h
  | z :: b, 0, _ => by simp [itCells]
  | z :: b, j + 1, h => by
    rw [itCells, show (j + 1) * 2 = j * 2 + 1 + 1 by omega, List.getElem?_cons_succ, List.getElem?_cons_succ, itCells_at0 b j (by simpa using h)]
    simp
theorem itCells_at1 : ∀ (b : List (Int × Nat)) (j : Nat), j < b.length → (itCells b)[j * 2 + 1]? = some (.int .i64 ((b.getD j (0, 0)).2 : Int))
  | [], j, h => by simp at h
  | z :: b, 0, _ => by simp [itCells]
  | z :: b, j + 1, h => by
    rw [itCells, show (j + 1) * 2 + 1 = j * 2 + 1 + 1 + 1 by omega, List.getElem?_cons_succ, List.getElem?_cons_succ, itCells_at1 b j (by simpa using h)]
    simp
theorem itCells_one : ∀ b : List (Int × Nat), ∀ u ∈ itCells b, u.oneCell' = true
  | [], u, h => by simp [itCells] at h
  | z :: b, u, h => by
    simp only [itCells, List.mem_cons] at h
    rcases h with rfl | rfl | h
    · rfl
    · rfl
    · exact itCells_one b u h

/-- The slice value v holds the bag. -/
def BagAt (w : World) (v : Value) (bag : List (Int × Nat)) : Prop := w.ownsRow 0 126 2 v bag.length (itCells bag)
theorem BagAt.form {w : World} {v : Value} {bag : List (Int × Nat)} (h : BagAt w v bag) :
    ∃ ao cap, v = .slice ao bag.length cap ∧ (ao = none → bag = []) ∧
      ∀ a, ao = some a → ∃ g, a = ⟨g, 0, none⟩ ∧ g < w.heap.size ∧ ∀ t, t < bag.length → w.cell? ⟨g, t * 2, none⟩ = some (.int .i64 (bag.getD t (0, 0)).1) ∧ w.cell? ⟨g, t * 2 + 1, none⟩ = some (.int .i64 ((bag.getD t (0, 0)).2 : Int)) := by
  have h' := h
  rcases h.2 with ⟨rfl, hn⟩ | ⟨g, cap, cur, rfl, hg, hh, hnc, hcm, hcs, ht⟩
  · have : bag = [] := List.eq_nil_of_length_eq_zero hn
    subst this
    exact ⟨none, 0, rfl, fun _ => rfl, fun a ha => by cases ha⟩
  · refine ⟨some ⟨g, 0, none⟩, cap, rfl, (fun h => by cases h), fun a ha => ?_⟩
    cases ha
    exact ⟨g, rfl, ownsRow_lt h' rfl, fun t ht => ⟨ownsRow_cell h' (itCells_at0 bag t ht), ownsRow_cell h' (itCells_at1 bag t ht)⟩⟩
theorem BagAt.below {w w' : World} {v : Value} {bag : List (Int × Nat)} (h : BagAt w v bag) (hB : Below w.heap.size w w') : BagAt w' v bag := ownsRow_below h hB (fun _ hg => ownsRow_lt h hg)
theorem BagAt.nil (w : World) : BagAt w (.slice none 0 0) [] := World.ownsRow_nil _ _ _ _
theorem BagAt.of {w : World} {b n : Nat} {v : Value} {bag : List (Int × Nat)} (h : w.ownsRow b 126 2 v n (itCells bag)) (hn : n = bag.length) : BagAt w v bag := by
  subst hn; exact ownsRow_base h (Nat.zero_le _)
/-- The cells of item t, where there is one. -/
theorem BagAt.cells {w : World} {ao : Option Addr} {n cap : Nat} {bag : List (Int × Nat)} (h : BagAt w (.slice ao n cap) bag) {t : Nat} (ht : t < bag.length) : ∃ g, ao = some ⟨g, 0, none⟩ ∧ g < w.heap.size ∧ w.cell? ⟨g, t * 2, none⟩ = some (.int .i64 (bag.getD t (0, 0)).1) ∧ w.cell? ⟨g, t * 2 + 1, none⟩ = some (.int .i64 ((bag.getD t (0, 0)).2 : Int)) := by
  obtain ⟨ao', cap', e, hn, hs⟩ := h.form
  cases e
  cases ao with
  | none => rw [hn rfl] at ht; simp at ht
  | some a =>
    obtain ⟨g, rfl, hg, hc⟩ := hs a rfl
    exact ⟨g, rfl, hg, hc t ht⟩
/-- The cell of number t, where there is one. -/
theorem Ints.cell {w : World} {ao : Option Addr} {n cap : Nat} {xs : List Int} (h : Ints w (.slice ao n cap) xs) {t : Nat} (ht : t < xs.length) : ∃ g, ao = some ⟨g, 0, none⟩ ∧ g < w.heap.size ∧ w.cell? ⟨g, t, none⟩ = some (.int .i64 (xs.getD t 0)) := by
  obtain ⟨ao', cap', e, _, _, hn, hs⟩ := h.form
  cases e
  cases ao with
  | none => rw [(hn rfl).1] at ht; simp at ht
  | some a =>
    obtain ⟨g, rfl, hg, hc⟩ := hs a rfl
    exact ⟨g, rfl, hg, hc t ht⟩
theorem Ints.len {w : World} {ao : Option Addr} {n cap : Nat} {xs : List Int} (h : Ints w (.slice ao n cap) xs) : n = xs.length := by
  obtain ⟨ao', cap', e, _⟩ := h.form
  cases e; rfl
theorem BagAt.len {w : World} {ao : Option Addr} {n cap : Nat} {bag : List (Int × Nat)} (h : BagAt w (.slice ao n cap) bag) : n = bag.length := by
  obtain ⟨ao', cap', e, _⟩ := h.form
  cases e; rfl

/-- A sketch of the document's, as a value. -/
abbrev rsVal (k : Nat) (vb vt : Value) (lo hi : Int) (sl : Bool) (vk : Value) : Value := .agg #[.int .i64 (k : Int), vb, vt, .int .i64 lo, .int .i64 hi, .bool sl, vk]
abbrev rsBlk (k : Nat) (vb vt : Value) (lo hi : Int) (sl : Bool) (vk : Value) : Obj := .cells #[.int .i64 (k : Int), vb, vt, .int .i64 lo, .int .i64 hi, .bool sl, vk] 71 (0, 0)
/-- What the items weigh together. -/
def bagW (bag : List (Int × Nat)) : Nat := (bag.map fun z => 2 ^ z.2).sum
theorem bagW_step {bag : List (Int × Nat)} {j : Nat} (h : j < bag.length) : bagW (bag.take (j + 1)) = bagW (bag.take j) + 2 ^ (bag.getD j (0, 0)).2 := by
  unfold bagW
  rw [List.take_succ_eq_append_getElem h, List.map_append, List.sum_append]
  simp [List.getD, h]
theorem bagW_take_le : ∀ (bag : List (Int × Nat)) (j : Nat), bagW (bag.take j) ≤ bagW bag
  | [], j => by simp
  | z :: bag, 0 => by simp [bagW]
  | z :: bag, j + 1 => by have := bagW_take_le bag j; unfold bagW at *; simp only [List.take_succ_cons, List.map_cons, List.sum_cons]; omega
theorem bagW_all (bag : List (Int × Nat)) {j : Nat} (h : bag.length ≤ j) : bag.take j = bag := List.take_of_length_le h
theorem lvOf_step {bag : List (Int × Nat)} {j h : Nat} (hj : j < bag.length) : (lvOf (bag.take (j + 1)) h).length = (lvOf (bag.take j) h).length + (if (bag.getD j (0, 0)).2 = h then 1 else 0) := by
  rw [List.take_succ_eq_append_getElem hj, lvOf_append, List.length_append, lvOf_cons, lvOf_nil, List.append_nil]
  congr 1
  simp only [List.getD, List.getElem?_eq_getElem hj, Option.getD_some]
  split <;> rfl
theorem lvOf_le (bag : List (Int × Nat)) (h : Nat) : (lvOf bag h).length ≤ bag.length := by
  unfold lvOf
  rw [List.length_map]
  exact List.length_filter_le _ _
theorem getD_mem {bag : List (Int × Nat)} {j : Nat} (h : j < bag.length) : bag.getD j (0, 0) ∈ bag := by
  rw [List.getD_eq_getElem?_getD, List.getElem?_eq_getElem h]; exact List.getElem_mem h

end Go.Proofs.YtklicjbpjigfdabGreat

/- DERIVED. The walks of the document's own functions that count: power, Count, On, Holds, Capacity, crowded, place. -/
namespace Go.Proofs.YtklicjbpjigfdabGreat
open Go.RowKit
attribute [local go_sem ↓] Go.wp_at_zero Go.wp_at_succ

theorem blk7' {w : World} {r : Nat} {a b c d x y z : Value} {e : TypeId} (h : w.heap[r]? = some (.cells #[a, b, c, d, x, y, z] e (0, 0))) :
    w.cell? ⟨r, 0, none⟩ = some a ∧ w.cell? ⟨r, 1, none⟩ = some b ∧ w.cell? ⟨r, 2, none⟩ = some c ∧ w.cell? ⟨r, 3, none⟩ = some d ∧ w.cell? ⟨r, 4, none⟩ = some x ∧ w.cell? ⟨r, 5, none⟩ = some y ∧ w.cell? ⟨r, 6, none⟩ = some z ∧ (∀ o, w.frozen? ⟨r, o, none⟩ = false) := by
  refine ⟨?_, ?_, ?_, ?_, ?_, ?_, ?_, fun o => ?_⟩ <;> simp [World.cell?, World.frozen?, h]

set_option maxHeartbeats 400000 in
theorem rpower_any (h : Nat) (w : World) (hh : h ≤ 60) :
    Calls Tryz.prog 97 #[.int .i64 (h : Int)] w fun e w' => e = .returned (.int .i64 ((2 ^ h : Nat) : Int)) ∧ w' = w := by
  go_enter Tryz.func97, Tryz.ntmps97
  go_wp2
  go_loop [3, 4] (fun a i => ∃ j : Nat, j ≤ h ∧ i = .int .i64 j ∧ a = .int .i64 ((2 ^ j : Nat) : Int)) (fun _ i => h - (intOf i).toNat)
  case atStart => exact ⟨0, Nat.zero_le _, rfl, rfl⟩
  case round =>
    obtain ⟨j, hj, rfl, rfl⟩ := hrel
    have b2 : 2 ^ j ≤ 1152921504606846976 := Nat.pow_le_pow_right (n := 2) (by decide) (show j ≤ 60 by omega)
    by_cases hlt : j < h
    · have b3 : 2 ^ j ≤ 576460752303423488 := Nat.pow_le_pow_right (n := 2) (by decide) (show j ≤ 59 by omega)
      have HS2 : Hid ((2 ^ (j + 1) : Nat) = 2 ^ j * 2) := Nat.pow_succ ..
      generalize 2 ^ j = p2 at *
      go_wp2
      go_round
      case rel => exact ⟨j + 1, by omega, by go_num, by rw [HS2.out]; go_num⟩
      case measure => simp [intOf]; omega
    · have : j = h := by omega
      subst this
      go_wp2
      go_ret
      exact ⟨rfl, rfl⟩

/-- Levels are few. -/
def Low (bag : List (Int × Nat)) : Prop := ∀ z ∈ bag, z.2 ≤ 30
theorem Low.at {bag : List (Int × Nat)} (h : Low bag) {j : Nat} (hj : j < bag.length) : (bag.getD j (0, 0)).2 ≤ 30 := h _ (getD_mem hj)
theorem bagW_bd : ∀ {bag : List (Int × Nat)}, Low bag → bagW bag ≤ bag.length * 1073741824
  | [], _ => by simp [bagW]
  | z :: bag, h => by
    have h1 := bagW_bd (bag := bag) (fun y hy => h y (by simp [hy]))
    have h2 : 2 ^ z.2 ≤ 1073741824 := Nat.pow_le_pow_right (n := 2) (by decide) (show z.2 ≤ 30 from h z (by simp))
    unfold bagW at *
    simp only [List.map_cons, List.sum_cons, List.length_cons]; omega

set_option maxHeartbeats 1000000 in
theorem rcount_any (k : Nat) (vb vt vk : Value) (lo hi : Int) (sl : Bool) (bag : List (Int × Nat)) (w : World) (hB : BagAt w vb bag) (hn : bag.length ≤ 100000) (hL : Low bag) :
    Calls Tryz.prog 70 #[rsVal k vb vt lo hi sl vk] w fun e w' => e = .returned (.int .i64 (bagW bag : Int)) ∧ Below w.heap.size w w' := by
  obtain ⟨ao, cap, rfl, _, _⟩ := hB.form
  have hbd := bagW_bd hL
  have HB := hid hB
  have HL := hid hL
  have HTL := hid (bagW_take_le bag)
  generalize hne : bag.length = n at *
  have HN := hid hne
  clear hB hL hne
  go_enter Tryz.func70, Tryz.ntmps70
  go_wp2_with fail
  have HBX := hid (heap_alloc_new w (rsBlk k (.slice ao n cap) vt lo hi sl vk))
  go_loopw [3, 4] (fun st si wr => ∃ j c : Nat, j ≤ n ∧ si = .int .i64 j ∧ st = .int .i64 (c : Int) ∧ Hid (c = bagW (bag.take j)) ∧ Hid (wr = w.alloc (rsBlk k (.slice ao n cap) vt lo hi sl vk))) (fun _ si _ => n - (intOf si).toNat)
  case atStart => exact ⟨0, 0, Nat.zero_le _, rfl, rfl, by simp [Hid, bagW], rfl⟩
  case round =>
    obtain ⟨j, c, hj, rfl, rfl, Hc, Hw⟩ := hrel
    obtain rfl := Hw.out
    obtain ⟨c0, c1, c2, c3, c4, c5, c6, cz⟩ := blk7' HBX.out
    by_cases hlt : j < n
    · have hlt' : j < bag.length := by rw [HN.out]; exact hlt
      obtain ⟨g, rfl, hg, hx, hh⟩ := HB.out.cells hlt'
      have hgz : g < (w.alloc (rsBlk k (.slice (some ⟨g, 0, none⟩) n cap) vt lo hi sl vk)).heap.size := by simp; omega
      have hh' := (((Below.refl w.heap.size w).alloc (Nat.le_refl _) (rsBlk k (.slice (some ⟨g, 0, none⟩) n cap) vt lo hi sl vk)).cell (p := ⟨g, j * 2 + 1, none⟩) hg).trans hh
      have h30 := HL.out.at hlt'
      have HS := hid (bagW_step hlt')
      have hb1 := HTL.out (j + 1)
      rw [HS.out, ← Hc.out] at hb1
      generalize (bag.getD j (0, 0)).2 = hv at *
      have HPW := hid (fun w' => rpower_any hv w' (by omega))
      generalize 2 ^ hv = pw at *
      clear hx hh
      go_wp2_with (go_at_call 97; refine (HPW.out _).mono ?_; rintro e w' ⟨rfl, hw⟩; obtain rfl := hw.symm)
      go_roundw
      case rel => exact ⟨j + 1, c + pw, by omega, by go_num, by go_num, by rw [Hid, HS.out, Hc.out], by simp [Hid]⟩
      case measure => simp [intOf]; omega
    · have HE : Hid (c = bagW bag) := by have := Hc.out; rw [bagW_all bag (by rw [HN.out]; omega)] at this; exact this
      go_wp2_with fail
      go_ret
      exact ⟨ret_int (by rw [HE.out]), (Below.refl _ _).alloc (Nat.le_refl _) _⟩

set_option maxHeartbeats 1000000 in
theorem ron_any (k h : Nat) (vb vt vk : Value) (lo hi : Int) (sl : Bool) (bag : List (Int × Nat)) (w : World) (hB : BagAt w vb bag) (hn : bag.length ≤ 100000) :
    Calls Tryz.prog 98 #[rsVal k vb vt lo hi sl vk, .int .i64 (h : Int)] w fun e w' => e = .returned (.int .i64 ((lvOf bag h).length : Int)) ∧ Below w.heap.size w w' := by
  obtain ⟨ao, cap, rfl, _, _⟩ := hB.form
  have HB := hid hB
  generalize hne : bag.length = n at *
  have HN := hid hne
  clear hB hne
  have HBX := hid (heap_alloc_new w (rsBlk k (.slice ao n cap) vt lo hi sl vk))
  obtain ⟨c0, c1, c2, c3, c4, c5, c6, cz⟩ := blk7' HBX.out
  go_enter Tryz.func98, Tryz.ntmps98
  go_wp2_with fail
  go_loop [5, 6] (fun st si => ∃ j c : Nat, j ≤ n ∧ c ≤ j ∧ si = .int .i64 j ∧ st = .int .i64 (c : Int) ∧ Hid (c = (lvOf (bag.take j) h).length)) (fun _ si => n - (intOf si).toNat)
  case atStart => exact ⟨0, 0, Nat.zero_le _, Nat.le_refl _, rfl, rfl, by simp [Hid, lvOf]⟩
  case round =>
    obtain ⟨j, c, hj, hcj, rfl, rfl, Hc⟩ := hrel
    by_cases hlt : j < n
    · have hlt' : j < bag.length := by rw [HN.out]; exact hlt
      obtain ⟨g, rfl, hg, hx, hh⟩ := HB.out.cells hlt'
      have hgz : g < (w.alloc (rsBlk k (.slice (some ⟨g, 0, none⟩) n cap) vt lo hi sl vk)).heap.size := by simp; omega
      have hh' := (((Below.refl w.heap.size w).alloc (Nat.le_refl _) (rsBlk k (.slice (some ⟨g, 0, none⟩) n cap) vt lo hi sl vk)).cell (p := ⟨g, j * 2 + 1, none⟩) hg).trans hh
      have HS := hid (lvOf_step (h := h) hlt')
      generalize (bag.getD j (0, 0)).2 = hv at *
      clear hx hh
      by_cases he : hv = h
      · have he' : ((hv : Int) == (h : Int)) = true := by simp [he]
        go_wp2_with fail
        go_round
        case rel => exact ⟨j + 1, c + 1, by omega, by omega, by go_num, by go_num, by rw [Hid, HS.out, if_pos he, Hc.out]⟩
        case measure => simp [intOf]; omega
      · have he' : ((hv : Int) == (h : Int)) = false := by simp; omega
        go_wp2_with fail
        go_round
        case rel => exact ⟨j + 1, c, by omega, by omega, by go_num, rfl, by rw [Hid, HS.out, if_neg he, Hc.out]; rfl⟩
        case measure => simp [intOf]; omega
    · have HE : Hid (c = (lvOf bag h).length) := by have := Hc.out; rw [bagW_all bag (by rw [HN.out]; omega)] at this; exact this
      go_wp2_with fail
      go_ret
      exact ⟨ret_int (by rw [HE.out]), (Below.refl _ _).alloc (Nat.le_refl _) _⟩

set_option maxHeartbeats 400000 in
theorem rholds_any (k d : Nat) (w : World) (hk : k ≤ 255) (hd : d ≤ 30) :
    Calls Tryz.prog 119 #[.int .i64 (k : Int), .int .i64 (d : Int)] w fun e w' => e = .returned (.int .i64 (capOf k d : Int)) ∧ w' = w := by
  go_enter Tryz.func119, Tryz.ntmps119
  go_wp2
  go_loop [5, 6, 7] (fun a b i => ∃ j : Nat, j ≤ d ∧ i = .int .i64 j ∧ a = .int .i64 ((2 ^ j : Nat) : Int) ∧ b = .int .i64 ((3 ^ j : Nat) : Int)) (fun _ _ i => d - (intOf i).toNat)
  case atStart => exact ⟨0, Nat.zero_le _, rfl, rfl, rfl⟩
  case round =>
    obtain ⟨j, hj, rfl, rfl, rfl⟩ := hrel
    have b2 := pow2_bd (j := j) (by omega)
    have b3 := pow3_bd (j := j) (by omega)
    by_cases hlt : j < d
    · have HS2 : Hid ((2 ^ (j + 1) : Nat) = 2 ^ j * 2) := Nat.pow_succ ..
      have HS3 : Hid ((3 ^ (j + 1) : Nat) = 3 ^ j * 3) := Nat.pow_succ ..
      generalize 2 ^ j = p2 at *
      generalize 3 ^ j = p3 at *
      go_wp2
      go_round
      case rel => exact ⟨j + 1, by omega, by go_num, by rw [HS2.out]; go_num, by rw [HS3.out]; go_num⟩
      case measure => simp [intOf]; omega
    · have : j = d := by omega
      subst this
      have HC : Hid (capOf k j = capFrom k (3 ^ j) (2 ^ j) k 2) := rfl
      generalize 2 ^ j = p2 at *
      generalize 3 ^ j = p3 at *
      go_wp2
      go_loop [8] (fun t => ∃ c f : Nat, c + f = k + 2 ∧ t = .int .i64 (c : Int) ∧ Hid (capOf k j = capFrom k p3 p2 f c)) (fun t => k - (intOf t).toNat)
      case atStart => exact ⟨2, k, by omega, rfl, HC⟩
      case round =>
        obtain ⟨c, f, hcf, rfl, hc⟩ := hrel
        have m1 : (c : Int) * (p3 : Int) ≤ 52914020948324793 := mul_bd (a := 257) (by omega) b3
        have m2 : (k : Int) * (p2 : Int) ≤ 273804165120 := mul_bd hk b2
        have m3 := mul_nn c p3
        have m4 := mul_nn k p2
        by_cases h2 : (c : Int) * (p3 : Int) < (k : Int) * (p2 : Int)
        · by_cases h1 : c < k
          · go_wp2
            go_round
            case rel =>
              obtain ⟨f', rfl⟩ : ∃ f', f = f' + 1 := ⟨f - 1, by omega⟩
              refine ⟨c + 1, f', by omega, by go_num, ?_⟩
              have h2' : c * p3 < k * p2 := mul_lt_cast.1 h2
              exact hc.out.trans (capFrom_step ⟨h1, h2'⟩)
            case measure => simp [intOf]; omega
          · have HF : Hid (capOf k j = c) := hc.out.trans (capFrom_stop (fun h => h1 h.1))
            go_wp2
            go_ret
            exact ⟨ret_int (by rw [HF.out]), rfl⟩
        · have HF : Hid (capOf k j = c) := hc.out.trans (capFrom_stop (fun h => h2 (mul_lt_cast.2 h.2)))
          go_wp2
          go_ret
          exact ⟨ret_int (by rw [HF.out]), rfl⟩

/-- The capacities from the top down. -/
theorem capSum_down (k j : Nat) : capSum k (j + 1) = capSum k j + capOf k j := rfl
theorem capOf_255 (k d : Nat) (hk : k ≤ 255) : capOf k d ≤ 255 := by
  have h := capFrom_le k (3 ^ d) (2 ^ d) k 2
  unfold capOf
  omega
theorem capSum_255 (k : Nat) (hk : k ≤ 255) : ∀ n, capSum k n ≤ 255 * n
  | 0 => Nat.le_refl _
  | n + 1 => by have h1 := capSum_255 k hk n; have h2 := capOf_255 k n hk; rw [capSum]; omega

set_option maxHeartbeats 1000000 in
theorem rcapacity_any (k n cap : Nat) (ao : Option Addr) (vb vk : Value) (lo hi : Int) (sl : Bool) (w : World) (hk : k ≤ 255) (hn : n ≤ 30) :
    Calls Tryz.prog 118 #[rsVal k vb (.slice ao n cap) lo hi sl vk] w fun e w' => e = .returned (.int .i64 (capSum k n : Int)) ∧ Below w.heap.size w w' := by
  have HBX := hid (heap_alloc_new w (rsBlk k vb (.slice ao n cap) lo hi sl vk))
  obtain ⟨c0, c1, c2, c3, c4, c5, c6, cz⟩ := blk7' HBX.out
  go_enter Tryz.func118, Tryz.ntmps118
  go_wp2_with fail
  go_loop [3, 4] (fun st si => ∃ j c : Nat, j ≤ n ∧ si = .int .i64 j ∧ st = .int .i64 (c : Int) ∧ Hid (c = capSum k j)) (fun _ si => n - (intOf si).toNat)
  case atStart => exact ⟨0, 0, Nat.zero_le _, rfl, rfl, rfl⟩
  case round =>
    obtain ⟨j, c, hj, rfl, rfl, Hc⟩ := hrel
    have hcb := capSum_255 k hk j
    rw [← Hc.out] at hcb
    by_cases hlt : j < n
    · have HHO := hid (fun w' => rholds_any k j w' hk (by omega))
      have HS := hid (capSum_down k j)
      have hob := capOf_255 k j hk
      generalize capOf k j = co at *
      go_wp2_with (go_at_call 119; refine (HHO.out _).mono ?_; rintro e w' ⟨rfl, hw⟩; obtain rfl := hw.symm)
      go_round
      case rel => exact ⟨j + 1, c + co, by omega, by go_num, by go_num, by rw [Hid, HS.out, Hc.out]⟩
      case measure => simp [intOf]; omega
    · obtain rfl : n = j := by omega
      go_wp2_with fail
      go_ret
      exact ⟨ret_int (by rw [Hc.out]), (Below.refl _ _).alloc (Nat.le_refl _) _⟩

/-- What crowded answers. -/
def crAns : Option Nat → Int
  | Option.none => -1
  | some h => (h : Int)
theorem crowdF_end {k n : Nat} {bag : List (Int × Nat)} {h : Nat} : crowdF k n bag h 0 = Option.none := rfl

set_option maxHeartbeats 1000000 in
theorem rcrowded_any (k n cap : Nat) (ao : Option Addr) (vb vk : Value) (lo hi : Int) (sl : Bool) (bag : List (Int × Nat)) (w : World) (hB : BagAt w vb bag) (hk : k ≤ 255) (hn : n ≤ 30) (hl : bag.length ≤ 100000) :
    Calls Tryz.prog 109 #[rsVal k vb (.slice ao n cap) lo hi sl vk] w fun e w' => e = .returned (.int .i64 (crAns (crowdB k bag n))) ∧ Below w.heap.size w w' := by
  obtain ⟨bo, bcap, rfl, _, _⟩ := hB.form
  have HCA := hid (fun (w' : World) => rcapacity_any k n cap ao (.slice bo bag.length bcap) vk lo hi sl w' hk hn)
  have HON := hid (fun (h : Nat) (w' : World) (hb : Below w.heap.size w w') => ron_any k h (.slice bo bag.length bcap) (.slice ao n cap) vk lo hi sl bag w' (hB.below hb) hl)
  have hcb := capSum_255 k hk n
  have HCB : Hid (crowdB k bag n = if bag.length ≤ capSum k n then Option.none else crowdF k n bag 0 n) := rfl
  have HBX := hid (heap_alloc_new w (rsBlk k (.slice bo bag.length bcap) (.slice ao n cap) lo hi sl vk))
  generalize crowdB k bag n = CR at *
  generalize bag.length = bl at *
  obtain ⟨c0, c1, c2, c3, c4, c5, c6, cz⟩ := blk7' HBX.out
  clear hB
  go_enter Tryz.func109, Tryz.ntmps109
  go_wp2_with fail
  refine (HCA.out _).mono ?_
  rintro e w1 ⟨rfl, hb1⟩
  have HB1 := hid (((Below.refl w.heap.size w).alloc (Nat.le_refl _) (rsBlk k (.slice bo bl bcap) (.slice ao n cap) lo hi sl vk)).trans (hb1.mono (by simp)))
  have HBX1 := hid ((hb1.block w.heap.size (by simp)).trans HBX.out)
  clear hb1 HCA c0 c1 c2 c3 c4 c5 c6 cz
  obtain ⟨c0, c1, c2, c3, c4, c5, c6, cz⟩ := blk7' HBX1.out
  generalize capSum k n = cs at *
  by_cases hle : bl ≤ cs
  · have HR : Hid (CR = Option.none) := by rw [Hid, HCB.out, if_pos hle]
    have hle' : decide ((bl : Int) ≤ (cs : Int)) = true := by simp; omega
    go_wp2_with fail
    go_ret
    exact ⟨by rw [HR.out]; rfl, HB1.out⟩
  · have HR : Hid (CR = crowdF k n bag 0 n) := by rw [Hid, HCB.out, if_neg hle]
    have hle' : decide ((bl : Int) ≤ (cs : Int)) = false := by simp; omega
    go_wp2_with fail
    go_loopw [4] (fun si wr => ∃ j r : Nat, j + r = n ∧ si = .int .i64 j ∧ Hid (CR = crowdF k n bag j r) ∧ Hid (Below w.heap.size w wr) ∧ Hid (wr.heap[w.heap.size]? = some (rsBlk k (.slice bo bl bcap) (.slice ao n cap) lo hi sl vk))) (fun si _ => n - (intOf si).toNat)
    case atStart => exact ⟨0, n, by omega, rfl, HR, HB1, HBX1⟩
    case round =>
      obtain ⟨j, r, hjr, rfl, Hr, Hb, Hx⟩ := hrel
      clear c0 c1 c2 c3 c4 c5 c6 cz
      obtain ⟨c0, c1, c2, c3, c4, c5, c6, cz⟩ := blk7' Hx.out
      by_cases hlt : j < n
      · obtain ⟨r', rfl⟩ : ∃ r', r = r' + 1 := ⟨r - 1, by omega⟩
        have HO := hid (HON.out j wr Hb.out)
        have HHO := hid (fun w' => rholds_any k r' w' hk (by omega))
        have hdd : (n : Int) - 1 - (j : Int) = (r' : Int) := by omega
        have HS : Hid (CR = if capOf k r' < (lvOf bag j).length then some j else crowdF k n bag (j + 1) r') := by rw [Hid, Hr.out, crowdF, show n - 1 - j = r' by omega]
        have hln := lvOf_le bag j
        generalize (lvOf bag j).length = on at *
        generalize capOf k r' = co at *
        go_wp2_with fail
        refine HO.out.mono ?_
        rintro e w2 ⟨rfl, hb2⟩
        have HB2 := hid (Hb.out.trans (hb2.mono Hb.out.size))
        have HX2 := hid ((hb2.block w.heap.size (lt_of_blk' Hx.out)).trans Hx.out)
        clear hb2 HO c0 c1 c2 c3 c4 c5 c6 cz
        obtain ⟨c0, c1, c2, c3, c4, c5, c6, cz⟩ := blk7' HX2.out
        by_cases hco : co < on
        · have hco' : decide ((co : Int) < (on : Int)) = true := by simp; omega
          have HF : Hid (CR = some j) := by rw [Hid, HS.out, if_pos hco]
          go_wp2_with (go_at_call 119; refine (HHO.out _).mono ?_; rintro e w' ⟨rfl, hw⟩; obtain rfl := hw.symm)
          go_ret
          exact ⟨by rw [HF.out]; rfl, HB2.out⟩
        · have hco' : decide ((co : Int) < (on : Int)) = false := by simp; omega
          have HF : Hid (CR = crowdF k n bag (j + 1) r') := by rw [Hid, HS.out, if_neg hco]
          go_wp2_with (go_at_call 119; refine (HHO.out _).mono ?_; rintro e w' ⟨rfl, hw⟩; obtain rfl := hw.symm)
          go_roundw
          case rel => exact ⟨j + 1, r', by omega, by go_num, HF, HB2, HX2⟩
          case measure => simp [intOf]; omega
      · obtain rfl : r = 0 := by omega
        have HF : Hid (CR = Option.none) := by rw [Hid, Hr.out]; rfl
        go_wp2_with fail
        go_ret
        exact ⟨by rw [HF.out]; rfl, Hb.out⟩

end Go.Proofs.YtklicjbpjigfdabGreat
