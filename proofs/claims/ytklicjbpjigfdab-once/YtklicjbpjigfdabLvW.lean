/- DERIVED. The walks over a sketch's levels that only read: items, Count, capacity, toThin. -/
import Derived.Test.YtklicjbpjigfdabLv
import Derived.Test.YtklicjbpjigfdabMz
import Derived.Deep.QuietTactic
import Derived.BigQuiet
import Derived.WalkSmall
import Derived.Deep.RegionWith
import Derived.Deep.DrawnRows
namespace Go.Proofs.Ytklicjbpjigfdab
open Go.RowKit
variable {F : Nat → Prop}

/-- A sketch as a value. -/
abbrev skVal (k g n cap : Nat) (lo hi : Int) : Value := .agg #[.int .i64 (k : Int), .slice (some ⟨g, 0, none⟩) n cap, .int .i64 lo, .int .i64 hi]

set_option maxHeartbeats 400000 in
theorem items_any (k g cap : Nat) (lo hi : Int) (vs : List Value) (L : List Lvl) (w : World) (hL : LvAt F w g cap vs L) (hlen : L.length ≤ 64) (hbd : nsum L ≤ 1099511627776) :
    Calls Try.prog 96 #[skVal k g L.length cap lo hi] w fun e w' => e = .returned (.int .i64 (nsum L : Int)) ∧ Below w.heap.size w w' := by
  obtain ⟨n, hn⟩ : ∃ n, n = L.length := ⟨_, rfl⟩
  have HN : Hid (n = L.length) := hn
  rw [← hn] at hlen ⊢
  clear hn
  go_enter Try.func96, Try.ntmps96
  go_wp2
  go_loopw [3, 9] (fun t i wr => ∃ j c : Nat, j ≤ n ∧ i = .int .i64 j ∧ t = .int .i64 c ∧ Hid (c + nsum (L.drop j) = nsum L) ∧ Below w.heap.size w wr) (fun _ i _ => n - (intOf i).toNat)
  case atStart => exact ⟨0, 0, Nat.zero_le _, rfl, rfl, by simp [Hid], (Below.refl _ _).alloc (Nat.le_refl _) _⟩
  case round =>
    obtain ⟨j, c, hj, rfl, rfl, hc, hb⟩ := hrel
    by_cases hlt : j < n
    · have hlt' : j < L.length := by rw [← HN.out]; exact hlt
      obtain ⟨ao, cc, ev⟩ := hL.itemsForm hlt'
      have c0 : wr.cell? ⟨g, j * 2, none⟩ = some (.slice ao (L.getD j Lvl.none).items.length cc) := (hb.cell (by exact hL.lt)).trans ((hL.cell0 hlt').trans (by rw [ev]))
      have c1 : wr.cell? ⟨g, j * 2 + 1, none⟩ = some (.int .i64 ((L.getD j Lvl.none).times : Int)) := (hb.cell (by exact hL.lt)).trans (hL.cell1 hlt')
      have HS : Hid (nsum (L.drop j) = (L.getD j Lvl.none).items.length + nsum (L.drop (j + 1))) := nsum_drop L j hlt'
      have hcb : c + (L.getD j Lvl.none).items.length ≤ 1099511627776 := by have := HS.out; have := hc.out; omega
      generalize (L.getD j Lvl.none).items.length = m at *
      generalize (L.getD j Lvl.none).times = tm at *
      clear ev
      go_wp2
      go_roundw
      case rel =>
        refine ⟨j + 1, c + m, by omega, by go_num, by go_num, ?_, ?_⟩
        · have := HS.out; have := hc.out; unfold Hid; omega
        · exact hb.alloc hb.size _
      case measure => simp [intOf]; omega
    · have HE : Hid (c = nsum L) := by have := nsum_end L j (by rw [← HN.out]; omega); have := hc.out; unfold Hid; omega
      go_wp2
      go_ret
      exact ⟨ret_int (by rw [HE.out]), hb⟩

set_option maxHeartbeats 400000 in
theorem count_any (k g cap : Nat) (lo hi : Int) (vs : List Value) (L : List Lvl) (w : World) (hL : LvAt F w g cap vs L) (hlen : L.length ≤ 30) (hbd : wsum L ≤ 1099511627776) :
    Calls Try.prog 66 #[skVal k g L.length cap lo hi] w fun e w' => e = .returned (.int .i64 (wsum L : Int)) ∧ Below w.heap.size w w' := by
  obtain ⟨n, hn⟩ : ∃ n, n = L.length := ⟨_, rfl⟩
  have HN : Hid (n = L.length) := hn
  rw [← hn] at hlen ⊢
  clear hn
  go_enter Try.func66, Try.ntmps66
  go_wp2
  go_loopw [3, 4, 10] (fun t p i wr => ∃ j c : Nat, j ≤ n ∧ i = .int .i64 j ∧ p = .int .i64 ((2 ^ j : Nat) : Int) ∧ t = .int .i64 c ∧ Hid (c + 2 ^ j * wsum (L.drop j) = wsum L) ∧ Below w.heap.size w wr) (fun _ _ i _ => n - (intOf i).toNat)
  case atStart => exact ⟨0, 0, Nat.zero_le _, rfl, rfl, rfl, by simp [Hid], (Below.refl _ _).alloc (Nat.le_refl _) _⟩
  case round =>
    obtain ⟨j, c, hj, rfl, rfl, rfl, hc, hb⟩ := hrel
    by_cases hlt : j < n
    · have hlt' : j < L.length := by rw [← HN.out]; exact hlt
      obtain ⟨ao, cc, ev⟩ := hL.itemsForm hlt'
      have c0 : wr.cell? ⟨g, j * 2, none⟩ = some (.slice ao (L.getD j Lvl.none).items.length cc) := (hb.cell (by exact hL.lt)).trans ((hL.cell0 hlt').trans (by rw [ev]))
      have c1 : wr.cell? ⟨g, j * 2 + 1, none⟩ = some (.int .i64 ((L.getD j Lvl.none).times : Int)) := (hb.cell (by exact hL.lt)).trans (hL.cell1 hlt')
      have HS : Hid ((c + 2 ^ j * (L.getD j Lvl.none).items.length) + (2 ^ j * 2) * wsum (L.drop (j + 1)) = wsum L) := wstep hlt' hc.out
      have HP : Hid (2 ^ (j + 1) = 2 ^ j * 2) := Nat.pow_succ ..
      have b2 := pow2_bd (j := j) (by omega)
      generalize (L.getD j Lvl.none).items.length = m at *
      generalize (L.getD j Lvl.none).times = tm at *
      generalize 2 ^ j = p at *
      have hcb : (c : Int) + (p : Int) * (m : Int) ≤ 1099511627776 := by
        have := HS.out
        rw [← Int.natCast_mul]
        generalize p * m = pm at *
        omega
      have hnn := mul_nn p m
      clear ev
      go_wp2
      go_roundw
      case rel =>
        refine ⟨j + 1, c + p * m, by omega, by go_num, by rw [HP.out]; go_num, by rw [Int.natCast_add, Int.natCast_mul], ?_, hb.alloc hb.size _⟩
        rw [HP.out]; exact HS
      case measure => simp [intOf]; omega
    · have HE : Hid (c = wsum L) := by have := wsum_end L j (by rw [← HN.out]; omega); have := hc.out; rw [‹wsum (L.drop j) = 0›] at this; unfold Hid; omega
      go_wp2
      go_ret
      exact ⟨ret_int (by rw [HE.out]), hb⟩

theorem capacityAt_any (k g cap n h d : Nat) (lo hi : Int) (w : World) (hk : k ≤ 64) (hlen : n ≤ 30) (hd : n = h + 1 + d) :
    Calls Try.prog 109 #[skVal k g n cap lo hi, .int .i64 (h : Int)] w fun e w' => e = .returned (.int .i64 (capOf k d : Int)) ∧ Below w.heap.size w w' := by
  have HD : Hid (n = h + 1 + d) := hd
  have e : (n : Int) - 1 - (h : Int) = (d : Int) := by omega
  have hh : h ≤ 30 := by omega
  clear hd
  go_enter Try.func109, Try.ntmps109
  go_wp2_with fail
  refine (capacityOf_any k d _ hk (by have := HD.out; omega)).mono ?_
  rintro e w' ⟨rfl, rfl⟩
  go_wp2
  go_ret
  exact ⟨rfl, (Below.refl _ _).alloc (Nat.le_refl _) _⟩

set_option maxHeartbeats 400000 in
theorem capacity_any (k g cap n : Nat) (lo hi : Int) (w : World) (hk : k ≤ 64) (hlen : n ≤ 30) :
    Calls Try.prog 108 #[skVal k g n cap lo hi] w fun e w' => e = .returned (.int .i64 (capSum k n : Int)) ∧ Below w.heap.size w w' := by
  have hcs := capSum_bd k n hk
  go_enter Try.func108, Try.ntmps108
  go_wp2
  go_loopw [3, 8] (fun t i wr => ∃ j c : Nat, j ≤ n ∧ i = .int .i64 j ∧ t = .int .i64 c ∧ Hid (c + capSum k (n - j) = capSum k n) ∧ Below (w.alloc (.cells #[.int .i64 (k : Int), .slice (some ⟨g, 0, none⟩) n cap, .int .i64 lo, .int .i64 hi] 77)).heap.size (w.alloc (.cells #[.int .i64 (k : Int), .slice (some ⟨g, 0, none⟩) n cap, .int .i64 lo, .int .i64 hi] 77)) wr) (fun _ i _ => n - (intOf i).toNat)
  case atStart => exact ⟨0, 0, Nat.zero_le _, rfl, rfl, by simp [Hid], Below.refl _ _⟩
  case round =>
    obtain ⟨j, c, hj, rfl, rfl, hc, hb⟩ := hrel
    obtain ⟨b0, b1, b2, b3⟩ := box4 hb
    have HB := hid hb
    clear hb
    by_cases hlt : j < n
    · obtain ⟨d, hd⟩ : ∃ d, n = j + 1 + d := ⟨n - (j + 1), by omega⟩
      have HS : Hid (c + (capSum k d + capOf k d) = capSum k n) := by
        have := hc.out
        rw [show n - j = d + 1 by omega, capSum] at this
        exact this
      have hcb : c + capOf k d ≤ 1920 := by have := HS.out; omega
      have HD : Hid (n = j + 1 + d) := hd
      clear hd
      go_wp2_with fail
      refine (capacityAt_any k g cap n j d lo hi _ hk hlen HD.out).mono ?_
      rintro e w' ⟨rfl, hb'⟩
      generalize capOf k d = cd at *
      go_wp2
      go_roundw
      case rel =>
        refine ⟨j + 1, c + cd, by omega, by go_num, by go_num, ?_, HB.out.trans (hb'.mono HB.out.size)⟩
        have := HS.out; have := HD.out
        rw [show n - (j + 1) = d by omega]; unfold Hid; omega
      case measure => simp [intOf]; omega
    · have HE : Hid (c = capSum k n) := by have := hc.out; rw [show n - j = 0 by omega, capSum] at this; exact this
      go_wp2
      go_ret
      exact ⟨ret_int (by rw [HE.out]), ((Below.refl _ _).alloc (Nat.le_refl _) _).trans (HB.out.mono (by simp))⟩

theorem crowd_drop {k n j : Nat} {L : List Lvl} (h : j < L.length) : crowd k n j (L.drop j) = if capOf k (n - 1 - j) < (L.getD j Lvl.none).items.length then some j else crowd k n (j + 1) (L.drop (j + 1)) := by
  rw [lv_drop L j h, crowd]

/-- What toThin answers. -/
def thinAns : Option Nat → Value
  | Option.none => .tuple #[.int .i64 0, .bool false]
  | some h => .tuple #[.int .i64 (h : Int), .bool true]

attribute [local go_sem ↓] Go.wp_at_zero Go.wp_at_succ
set_option maxHeartbeats 1000000 in
theorem toThin_any (k g cap : Nat) (lo hi : Int) (vs : List Value) (L : List Lvl) (w : World) (hL : LvAt F w g cap vs L) (hk : k ≤ 64) (hlen : L.length ≤ 30) (hbd : nsum L ≤ 1099511627776) :
    Calls Try.prog 113 #[skVal k g L.length cap lo hi] w fun e w' => e = .returned (thinAns (Sk.toThin ⟨k, L, lo, hi⟩)) ∧ Below w.heap.size w w' := by
  have hitems := items_any (F := F) k g cap lo hi vs L
  have hcapac := fun w => capacity_any k g cap L.length lo hi w hk hlen
  obtain ⟨n, hn⟩ : ∃ n, n = L.length := ⟨_, rfl⟩
  have HN : Hid (n = L.length) := hn
  have hlen' : n ≤ 30 := by omega
  have hns : nsum L ≤ 1099511627776 := hbd
  rw [← hn] at hitems hcapac ⊢
  clear hn hlen hbd
  have H1 : Hid (∀ w, LvAt F w g cap vs L → Calls Try.prog 96 #[skVal k g n cap lo hi] w fun e w' => e = .returned (.int .i64 (nsum L : Int)) ∧ Below w.heap.size w w') := fun w h => hitems w h (by omega) hns
  have H2 : Hid (∀ w, Calls Try.prog 108 #[skVal k g n cap lo hi] w fun e w' => e = .returned (.int .i64 (capSum k n : Int)) ∧ Below w.heap.size w w') := hcapac
  clear hitems hcapac
  go_enter Try.func113, Try.ntmps113
  go_wp2_with fail
  refine (H1.out _ (hL.below ((Below.refl _ _).alloc (Nat.le_refl _) _))).mono ?_
  rintro e w1 ⟨rfl, hb1⟩
  obtain ⟨b0, b1, b2, b3⟩ := box4 hb1
  go_wp2_with fail
  refine (H2.out _).mono ?_
  rintro e w2 ⟨rfl, hb2⟩
  have hb12 : Below w.heap.size w w1 := ((Below.refl _ _).alloc (Nat.le_refl _) _).trans (hb1.mono (by simp))
  have d0 := cell_later hb2 b0
  have d1 := cell_later hb2 b1
  have d2 := cell_later hb2 b2
  have d3 := cell_later hb2 b3
  have hw2 : Below w.heap.size w w2 := hb12.trans (hb2.mono hb12.size)
  have hbz : w.heap.size < w2.heap.size := World.block_lt_of_cell? w2 ⟨w.heap.size, 0, none⟩ d0
  clear b0 b1 b2 b3 hb1 hb2 H1 H2
  by_cases hle : nsum L ≤ capSum k n
  · have HT : Hid (Sk.toThin ⟨k, L, lo, hi⟩ = Option.none) := by unfold Hid Sk.toThin; simp only [← HN.out]; rw [if_pos hle]
    generalize nsum L = ns at *
    generalize capSum k n = cs at *
    go_wp2_with fail
    go_ret2
    exact ⟨by rw [HT.out]; rfl, hw2⟩
  · have HT : Hid (Sk.toThin ⟨k, L, lo, hi⟩ = crowd k n 0 L) := by unfold Hid Sk.toThin; simp only [← HN.out]; rw [if_neg hle]
    generalize nsum L = ns at *
    generalize capSum k n = cs at *
    go_wp2_with fail
    go_loopw [16] (fun i wr => ∃ j : Nat, j ≤ n ∧ i = .int .i64 j ∧ Hid (crowd k n j (L.drop j) = crowd k n 0 L) ∧ Below w2.heap.size w2 wr) (fun i _ => n - (intOf i).toNat)
    case atStart => exact ⟨0, Nat.zero_le _, rfl, rfl, Below.refl _ _⟩
    case round =>
      obtain ⟨j, hj, rfl, hc, hb⟩ := hrel
      have e0 := cell_later hb d0
      have e1 := cell_later hb d1
      have e2 := cell_later hb d2
      have e3 := cell_later hb d3
      by_cases hlt : j < n
      · have hlt' : j < L.length := by rw [← HN.out]; exact hlt
        have hL2 : LvAt F wr g cap vs L := (hL.below hw2).below (hb)
        obtain ⟨ao, cc, ev⟩ := hL2.itemsForm hlt'
        have c0 : wr.cell? ⟨g, j * 2, none⟩ = some (.slice ao (L.getD j Lvl.none).items.length cc) := (hL2.cell0 hlt').trans (by rw [ev])
        have c1 : wr.cell? ⟨g, j * 2 + 1, none⟩ = some (.int .i64 ((L.getD j Lvl.none).times : Int)) := hL2.cell1 hlt'
        have HS : Hid (crowd k n j (L.drop j) = if capOf k (n - 1 - j) < (L.getD j Lvl.none).items.length then some j else crowd k n (j + 1) (L.drop (j + 1))) := crowd_drop hlt'
        obtain ⟨d, hd⟩ : ∃ d, n = j + 1 + d := ⟨n - (j + 1), by omega⟩
        have ed : n - 1 - j = d := by omega
        rw [ed] at HS
        have HD : Hid (n = j + 1 + d) := hd
        have hcap := fun w => capacityAt_any k g cap n j d lo hi w hk hlen' HD.out
        clear hd ed ev
        generalize (L.getD j Lvl.none).items.length = m at *
        generalize (L.getD j Lvl.none).times = tm at *
        generalize capOf k d = cd at *
        have HC := hid hcap
        have hz : w.heap.size < wr.heap.size := by have := hb.size; omega
        have HB := hid hb
        clear hcap hb
        go_wp2_with fail
        go_region_with (first | (go_at_call 109; refine (HC.out _).mono ?_; rintro e w' ⟨rfl, hb'⟩; have f0 : w'.cell? ⟨wr.heap.size, 0, none⟩ = some (.slice ao m cc) := (hb'.cell (by simp [World.drew])).trans (by simp [go_sem]); have HB3 := hid (below_alloc_drew hb'); clear hb'))
        all_goals
          by_cases hgt : cd < m
          · go_wp2
            go_ret2
            refine ⟨?_, ?_⟩
            · have := hc.out
              rw [HS.out, if_pos hgt] at this
              rw [HT.out, ← this]; rfl
            · exact hw2.trans ((HB.out.trans (HB3.out.mono HB.out.size)).mono hw2.size)
          · go_wp2
            go_roundw
            case rel =>
              refine ⟨j + 1, by omega, by go_num, ?_, HB.out.trans (HB3.out.mono HB.out.size)⟩
              have := hc.out
              rw [HS.out, if_neg hgt] at this
              exact this
            case measure => simp [intOf]; omega
      · have HE : Hid (crowd k n 0 L = Option.none) := by
          have := hc.out
          rw [List.drop_eq_nil_of_le (by rw [← HN.out]; omega), crowd] at this
          exact this.symm
        go_wp2
        go_ret2
        exact ⟨by rw [HT.out, HE.out]; rfl, hw2.trans (hb.mono hw2.size)⟩

end Go.Proofs.Ytklicjbpjigfdab
