/- DERIVED. The walks over a sketch's levels that only read: items, Count, capacity, toThin. -/
import Derived.Test.YtklicjbpjigfdabQ1
import Derived.Deep.QuietTactic
import Derived.BigQuiet
import Derived.WalkSmall
import Derived.Deep.RegionWith
import Derived.Deep.DrawnRows
import Derived.Deep.AppendLies
import Derived.Lib.AppendStr
import Derived.Laws.IdiomStrings
import Derived.Deep.RegionHeld3
import Derived.Deep.RegionLaw
namespace Go.Proofs.Ytklicjbpjigfdab
open Go.RowKit
variable {F : Nat → Prop}

/-- A sketch as a value. -/
abbrev skVal (k g n cap : Nat) (lo hi : Int) : Value := .agg #[.int .i64 (k : Int), .slice (some ⟨g, 0, none⟩) n cap, .int .i64 lo, .int .i64 hi]

set_option maxHeartbeats 400000 in
theorem items_any (k g cap : Nat) (lo hi : Int) (vs : List Value) (L : List Lvl) (w : World) (hL : LvAt F w g cap vs L) (hlen : L.length ≤ 64) (hbd : nsum L ≤ 1099511627776) :
    Calls Try.prog 96 #[skVal k g L.length cap lo hi] w fun e w' => e = .returned (.int .i64 (nsum L : Int)) ∧ Below w.heap.size w w' := by
  obtain ⟨n, hn⟩ : ∃ n, n = L.length := ⟨_, rfl⟩
  have HN : Hid (n = L.length) := hn
  rw [← hn] at hlen ⊢
  clear hn
  go_enter Try.func96, Try.ntmps96
  go_wp2
  go_loopw [3, 9] (fun t i wr => ∃ j c : Nat, j ≤ n ∧ i = .int .i64 j ∧ t = .int .i64 c ∧ Hid (c + nsum (L.drop j) = nsum L) ∧ Below w.heap.size w wr) (fun _ i _ => n - (intOf i).toNat)
  case atStart => exact ⟨0, 0, Nat.zero_le _, rfl, rfl, by simp [Hid], (Below.refl _ _).alloc (Nat.le_refl _) _⟩
  case round =>
    obtain ⟨j, c, hj, rfl, rfl, hc, hb⟩ := hrel
    by_cases hlt : j < n
    · have hlt' : j < L.length := by rw [← HN.out]; exact hlt
      obtain ⟨ao, cc, ev⟩ := hL.itemsForm hlt'
      have c0 : wr.cell? ⟨g, j * 2, none⟩ = some (.slice ao (L.getD j Lvl.none).items.length cc) := (hb.cell (by exact hL.lt)).trans ((hL.cell0 hlt').trans (by rw [ev]))
      have c1 : wr.cell? ⟨g, j * 2 + 1, none⟩ = some (.int .i64 ((L.getD j Lvl.none).times : Int)) := (hb.cell (by exact hL.lt)).trans (hL.cell1 hlt')
      have HS : Hid (nsum (L.drop j) = (L.getD j Lvl.none).items.length + nsum (L.drop (j + 1))) := nsum_drop L j hlt'
      have hcb : c + (L.getD j Lvl.none).items.length ≤ 1099511627776 := by have := HS.out; have := hc.out; omega
      generalize (L.getD j Lvl.none).items.length = m at *
      generalize (L.getD j Lvl.none).times = tm at *
      clear ev
      go_wp2
      go_roundw
      case rel =>
        refine ⟨j + 1, c + m, by omega, by go_num, by go_num, ?_, ?_⟩
        · have := HS.out; have := hc.out; unfold Hid; omega
        · exact hb.alloc hb.size _
      case measure => simp [intOf]; omega
    · have HE : Hid (c = nsum L) := by have := nsum_end L j (by rw [← HN.out]; omega); have := hc.out; unfold Hid; omega
      go_wp2
      go_ret
      exact ⟨ret_int (by rw [HE.out]), hb⟩

set_option maxHeartbeats 400000 in
theorem count_any (k g cap : Nat) (lo hi : Int) (vs : List Value) (L : List Lvl) (w : World) (hL : LvAt F w g cap vs L) (hlen : L.length ≤ 30) (hbd : wsum L ≤ 1099511627776) :
    Calls Try.prog 66 #[skVal k g L.length cap lo hi] w fun e w' => e = .returned (.int .i64 (wsum L : Int)) ∧ Below w.heap.size w w' := by
  obtain ⟨n, hn⟩ : ∃ n, n = L.length := ⟨_, rfl⟩
  have HN : Hid (n = L.length) := hn
  rw [← hn] at hlen ⊢
  clear hn
  go_enter Try.func66, Try.ntmps66
  go_wp2
  go_loopw [3, 4, 10] (fun t p i wr => ∃ j c : Nat, j ≤ n ∧ i = .int .i64 j ∧ p = .int .i64 ((2 ^ j : Nat) : Int) ∧ t = .int .i64 c ∧ Hid (c + 2 ^ j * wsum (L.drop j) = wsum L) ∧ Below w.heap.size w wr) (fun _ _ i _ => n - (intOf i).toNat)
  case atStart => exact ⟨0, 0, Nat.zero_le _, rfl, rfl, rfl, by simp [Hid], (Below.refl _ _).alloc (Nat.le_refl _) _⟩
  case round =>
    obtain ⟨j, c, hj, rfl, rfl, rfl, hc, hb⟩ := hrel
    by_cases hlt : j < n
    · have hlt' : j < L.length := by rw [← HN.out]; exact hlt
      obtain ⟨ao, cc, ev⟩ := hL.itemsForm hlt'
      have c0 : wr.cell? ⟨g, j * 2, none⟩ = some (.slice ao (L.getD j Lvl.none).items.length cc) := (hb.cell (by exact hL.lt)).trans ((hL.cell0 hlt').trans (by rw [ev]))
      have c1 : wr.cell? ⟨g, j * 2 + 1, none⟩ = some (.int .i64 ((L.getD j Lvl.none).times : Int)) := (hb.cell (by exact hL.lt)).trans (hL.cell1 hlt')
      have HS : Hid ((c + 2 ^ j * (L.getD j Lvl.none).items.length) + (2 ^ j * 2) * wsum (L.drop (j + 1)) = wsum L) := wstep hlt' hc.out
      have HP : Hid (2 ^ (j + 1) = 2 ^ j * 2) := Nat.pow_succ ..
      have b2 := pow2_bd (j := j) (by omega)
      generalize (L.getD j Lvl.none).items.length = m at *
      generalize (L.getD j Lvl.none).times = tm at *
      generalize 2 ^ j = p at *
      have hcb : (c : Int) + (p : Int) * (m : Int) ≤ 1099511627776 := by
        have := HS.out
        rw [← Int.natCast_mul]
        generalize p * m = pm at *
        omega
      have hnn := mul_nn p m
      clear ev
      go_wp2
      go_roundw
      case rel =>
        refine ⟨j + 1, c + p * m, by omega, by go_num, by rw [HP.out]; go_num, by rw [Int.natCast_add, Int.natCast_mul], ?_, hb.alloc hb.size _⟩
        rw [HP.out]; exact HS
      case measure => simp [intOf]; omega
    · have HE : Hid (c = wsum L) := by have := wsum_end L j (by rw [← HN.out]; omega); have := hc.out; rw [‹wsum (L.drop j) = 0›] at this; unfold Hid; omega
      go_wp2
      go_ret
      exact ⟨ret_int (by rw [HE.out]), hb⟩

theorem capacityAt_any (k g cap n h d : Nat) (lo hi : Int) (w : World) (hk : k ≤ 64) (hlen : n ≤ 30) (hd : n = h + 1 + d) :
    Calls Try.prog 109 #[skVal k g n cap lo hi, .int .i64 (h : Int)] w fun e w' => e = .returned (.int .i64 (capOf k d : Int)) ∧ Below w.heap.size w w' := by
  have HD : Hid (n = h + 1 + d) := hd
  have e : (n : Int) - 1 - (h : Int) = (d : Int) := by omega
  have hh : h ≤ 30 := by omega
  clear hd
  go_enter Try.func109, Try.ntmps109
  go_wp2_with fail
  refine (capacityOf_any k d _ hk (by have := HD.out; omega)).mono ?_
  rintro e w' ⟨rfl, rfl⟩
  go_wp2
  go_ret
  exact ⟨rfl, (Below.refl _ _).alloc (Nat.le_refl _) _⟩

set_option maxHeartbeats 400000 in
theorem capacity_any (k g cap n : Nat) (lo hi : Int) (w : World) (hk : k ≤ 64) (hlen : n ≤ 30) :
    Calls Try.prog 108 #[skVal k g n cap lo hi] w fun e w' => e = .returned (.int .i64 (capSum k n : Int)) ∧ Below w.heap.size w w' := by
  have hcs := capSum_bd k n hk
  go_enter Try.func108, Try.ntmps108
  go_wp2
  go_loopw [3, 8] (fun t i wr => ∃ j c : Nat, j ≤ n ∧ i = .int .i64 j ∧ t = .int .i64 c ∧ Hid (c + capSum k (n - j) = capSum k n) ∧ Below (w.alloc (.cells #[.int .i64 (k : Int), .slice (some ⟨g, 0, none⟩) n cap, .int .i64 lo, .int .i64 hi] 77)).heap.size (w.alloc (.cells #[.int .i64 (k : Int), .slice (some ⟨g, 0, none⟩) n cap, .int .i64 lo, .int .i64 hi] 77)) wr) (fun _ i _ => n - (intOf i).toNat)
  case atStart => exact ⟨0, 0, Nat.zero_le _, rfl, rfl, by simp [Hid], Below.refl _ _⟩
  case round =>
    obtain ⟨j, c, hj, rfl, rfl, hc, hb⟩ := hrel
    obtain ⟨b0, b1, b2, b3⟩ := box4 hb
    have HB := hid hb
    clear hb
    by_cases hlt : j < n
    · obtain ⟨d, hd⟩ : ∃ d, n = j + 1 + d := ⟨n - (j + 1), by omega⟩
      have HS : Hid (c + (capSum k d + capOf k d) = capSum k n) := by
        have := hc.out
        rw [show n - j = d + 1 by omega, capSum] at this
        exact this
      have hcb : c + capOf k d ≤ 1920 := by have := HS.out; omega
      have HD : Hid (n = j + 1 + d) := hd
      clear hd
      go_wp2_with fail
      refine (capacityAt_any k g cap n j d lo hi _ hk hlen HD.out).mono ?_
      rintro e w' ⟨rfl, hb'⟩
      generalize capOf k d = cd at *
      go_wp2
      go_roundw
      case rel =>
        refine ⟨j + 1, c + cd, by omega, by go_num, by go_num, ?_, HB.out.trans (hb'.mono HB.out.size)⟩
        have := HS.out; have := HD.out
        rw [show n - (j + 1) = d by omega]; unfold Hid; omega
      case measure => simp [intOf]; omega
    · have HE : Hid (c = capSum k n) := by have := hc.out; rw [show n - j = 0 by omega, capSum] at this; exact this
      go_wp2
      go_ret
      exact ⟨ret_int (by rw [HE.out]), ((Below.refl _ _).alloc (Nat.le_refl _) _).trans (HB.out.mono (by simp))⟩

theorem crowd_drop {k n j : Nat} {L : List Lvl} (h : j < L.length) : crowd k n j (L.drop j) = if capOf k (n - 1 - j) < (L.getD j Lvl.none).items.length then some j else crowd k n (j + 1) (L.drop (j + 1)) := by
  rw [lv_drop L j h, crowd]

/-- What toThin answers. -/
def thinAns : Option Nat → Value
  | Option.none => .tuple #[.int .i64 0, .bool false]
  | some h => .tuple #[.int .i64 (h : Int), .bool true]

attribute [local go_sem ↓] Go.wp_at_zero Go.wp_at_succ
set_option maxHeartbeats 1000000 in
theorem toThin_any (k g cap : Nat) (lo hi : Int) (vs : List Value) (L : List Lvl) (w : World) (hL : LvAt F w g cap vs L) (hk : k ≤ 64) (hlen : L.length ≤ 30) (hbd : nsum L ≤ 1099511627776) :
    Calls Try.prog 113 #[skVal k g L.length cap lo hi] w fun e w' => e = .returned (thinAns (Sk.toThin ⟨k, L, lo, hi⟩)) ∧ Below w.heap.size w w' := by
  have hitems := items_any (F := F) k g cap lo hi vs L
  have hcapac := fun w => capacity_any k g cap L.length lo hi w hk hlen
  obtain ⟨n, hn⟩ : ∃ n, n = L.length := ⟨_, rfl⟩
  have HN : Hid (n = L.length) := hn
  have hlen' : n ≤ 30 := by omega
  have hns : nsum L ≤ 1099511627776 := hbd
  rw [← hn] at hitems hcapac ⊢
  clear hn hlen hbd
  have H1 : Hid (∀ w, LvAt F w g cap vs L → Calls Try.prog 96 #[skVal k g n cap lo hi] w fun e w' => e = .returned (.int .i64 (nsum L : Int)) ∧ Below w.heap.size w w') := fun w h => hitems w h (by omega) hns
  have H2 : Hid (∀ w, Calls Try.prog 108 #[skVal k g n cap lo hi] w fun e w' => e = .returned (.int .i64 (capSum k n : Int)) ∧ Below w.heap.size w w') := hcapac
  clear hitems hcapac
  go_enter Try.func113, Try.ntmps113
  go_wp2_with fail
  refine (H1.out _ (hL.below ((Below.refl _ _).alloc (Nat.le_refl _) _))).mono ?_
  rintro e w1 ⟨rfl, hb1⟩
  obtain ⟨b0, b1, b2, b3⟩ := box4 hb1
  go_wp2_with fail
  refine (H2.out _).mono ?_
  rintro e w2 ⟨rfl, hb2⟩
  have hb12 : Below w.heap.size w w1 := ((Below.refl _ _).alloc (Nat.le_refl _) _).trans (hb1.mono (by simp))
  have d0 := cell_later hb2 b0
  have d1 := cell_later hb2 b1
  have d2 := cell_later hb2 b2
  have d3 := cell_later hb2 b3
  have hw2 : Below w.heap.size w w2 := hb12.trans (hb2.mono hb12.size)
  have hbz : w.heap.size < w2.heap.size := World.block_lt_of_cell? w2 ⟨w.heap.size, 0, none⟩ d0
  clear b0 b1 b2 b3 hb1 hb2 H1 H2
  by_cases hle : nsum L ≤ capSum k n
  · have HT : Hid (Sk.toThin ⟨k, L, lo, hi⟩ = Option.none) := by unfold Hid Sk.toThin; simp only [← HN.out]; rw [if_pos hle]
    generalize nsum L = ns at *
    generalize capSum k n = cs at *
    go_wp2_with fail
    go_ret2
    exact ⟨by rw [HT.out]; rfl, hw2⟩
  · have HT : Hid (Sk.toThin ⟨k, L, lo, hi⟩ = crowd k n 0 L) := by unfold Hid Sk.toThin; simp only [← HN.out]; rw [if_neg hle]
    generalize nsum L = ns at *
    generalize capSum k n = cs at *
    go_wp2_with fail
    go_loopw [16] (fun i wr => ∃ j : Nat, j ≤ n ∧ i = .int .i64 j ∧ Hid (crowd k n j (L.drop j) = crowd k n 0 L) ∧ Below w2.heap.size w2 wr) (fun i _ => n - (intOf i).toNat)
    case atStart => exact ⟨0, Nat.zero_le _, rfl, rfl, Below.refl _ _⟩
    case round =>
      obtain ⟨j, hj, rfl, hc, hb⟩ := hrel
      have e0 := cell_later hb d0
      have e1 := cell_later hb d1
      have e2 := cell_later hb d2
      have e3 := cell_later hb d3
      by_cases hlt : j < n
      · have hlt' : j < L.length := by rw [← HN.out]; exact hlt
        have hL2 : LvAt F wr g cap vs L := (hL.below hw2).below (hb)
        obtain ⟨ao, cc, ev⟩ := hL2.itemsForm hlt'
        have c0 : wr.cell? ⟨g, j * 2, none⟩ = some (.slice ao (L.getD j Lvl.none).items.length cc) := (hL2.cell0 hlt').trans (by rw [ev])
        have c1 : wr.cell? ⟨g, j * 2 + 1, none⟩ = some (.int .i64 ((L.getD j Lvl.none).times : Int)) := hL2.cell1 hlt'
        have HS : Hid (crowd k n j (L.drop j) = if capOf k (n - 1 - j) < (L.getD j Lvl.none).items.length then some j else crowd k n (j + 1) (L.drop (j + 1))) := crowd_drop hlt'
        obtain ⟨d, hd⟩ : ∃ d, n = j + 1 + d := ⟨n - (j + 1), by omega⟩
        have ed : n - 1 - j = d := by omega
        rw [ed] at HS
        have HD : Hid (n = j + 1 + d) := hd
        have hcap := fun w => capacityAt_any k g cap n j d lo hi w hk hlen' HD.out
        clear hd ed ev
        generalize (L.getD j Lvl.none).items.length = m at *
        generalize (L.getD j Lvl.none).times = tm at *
        generalize capOf k d = cd at *
        have HC := hid hcap
        have hz : w.heap.size < wr.heap.size := by have := hb.size; omega
        have HB := hid hb
        clear hcap hb
        go_wp2_with fail
        go_region_with (first | (go_at_call 109; refine (HC.out _).mono ?_; rintro e w' ⟨rfl, hb'⟩; have f0 : w'.cell? ⟨wr.heap.size, 0, none⟩ = some (.slice ao m cc) := (hb'.cell (by simp [World.drew])).trans (by simp [go_sem]); have HB3 := hid (below_alloc_drew hb'); clear hb'))
        all_goals
          by_cases hgt : cd < m
          · go_wp2
            go_ret2
            refine ⟨?_, ?_⟩
            · have := hc.out
              rw [HS.out, if_pos hgt] at this
              rw [HT.out, ← this]; rfl
            · exact hw2.trans ((HB.out.trans (HB3.out.mono HB.out.size)).mono hw2.size)
          · go_wp2
            go_roundw
            case rel =>
              refine ⟨j + 1, by omega, by go_num, ?_, HB.out.trans (HB3.out.mono HB.out.size)⟩
              have := hc.out
              rw [HS.out, if_neg hgt] at this
              exact this
            case measure => simp [intOf]; omega
      · have HE : Hid (crowd k n 0 L = Option.none) := by
          have := hc.out
          rw [List.drop_eq_nil_of_le (by rw [← HN.out]; omega), crowd] at this
          exact this.symm
        go_wp2
        go_ret2
        exact ⟨by rw [HT.out, HE.out]; rfl, hw2.trans (hb.mono hw2.size)⟩

end Go.Proofs.Ytklicjbpjigfdab

/- DERIVED. The walks of the text's writer: put, check. -/
namespace Go.Proofs.Ytklicjbpjigfdab
open Go.RowKit

theorem Try.infoByte : (Try.prog.info? 5).map (fun i => (i.zero, i.size, i.bytes)) = some (some (.int .u8 0), 1, 1) := by kernel_rfl

/-- The cells of a list of bytes. -/
def byts (bs : List Nat) : List Value := bs.map fun (b : Nat) => Value.int .u8 (b : Int)
theorem byts_snoc (bs : List Nat) (b : Nat) : byts bs ++ [Value.int .u8 (b : Int)] = byts (bs ++ [b]) := by simp [byts]

/-- A text, as far as it is written, lies behind block p; all that has turned since w0 is above B. -/
def WrSt (B p : Nat) (bs : List Nat) (w0 w : World) : Prop :=
  ∃ ao c, B ≤ p ∧ w.heap[p]? = some (.cells #[.slice ao bs.length c] 122 (0, 0)) ∧ w.ownsRow B 5 1 (.slice ao bs.length c) bs.length (byts bs) ∧ Below B w0 w
theorem WrSt.below {B p : Nat} {bs : List Nat} {w0 w w' : World} (h : WrSt B p bs w0 w) (hb : Below w.heap.size w w') : WrSt B p bs w0 w' := by
  obtain ⟨ao, c, h1, h2, h3, h4⟩ := h
  exact ⟨ao, c, h1, (hb.block p (lt_of_blk' h2)).trans h2, ownsRow_below h3 hb (fun g hg => ownsRow_lt h3 hg), h4.trans (hb.mono (by have := lt_of_blk' h2; omega))⟩
theorem blk1 {w : World} {r : Nat} {a : Value} {e : TypeId} (h : w.heap[r]? = some (.cells #[a] e (0, 0))) :
    w.cell? ⟨r, 0, none⟩ = some a ∧ (∀ o, w.frozen? ⟨r, o, none⟩ = false) := by
  refine ⟨?_, fun o => ?_⟩ <;> simp [World.cell?, World.frozen?, h]

theorem WrSt.apart {B p c : Nat} {ao : Option Addr} {n : Nat} {xs : List Value} {w : World} (hb : w.heap[p]? = some (.cells #[.slice ao n c] 122 (0, 0))) (hr : w.ownsRow B 5 1 (.slice ao n c) n xs) : (Value.slice ao n c).ownBlock ≠ some p := by
  intro e
  rcases hr.2 with ⟨e', _⟩ | ⟨g', cap', cur, e', _, hh, _⟩
  · rw [e'] at e; simp [Value.ownBlock] at e
  · rw [e'] at e; simp [Value.ownBlock] at e; subst e
    rw [hb] at hh; cases hh
/-- All but texts that are being written is kept. -/
def TxKept (w w' : World) : Prop := w.heap.size ≤ w'.heap.size ∧ ∀ (b : Nat) (cc : Array Value) (t : TypeId) (fr : Nat × Nat), w.heap[b]? = some (.cells cc t fr) → t ≠ 122 → t ≠ 5 → w'.heap[b]? = w.heap[b]?
theorem TxKept.refl (w : World) : TxKept w w := ⟨Nat.le_refl _, fun _ _ _ _ _ _ _ => rfl⟩
theorem TxKept.trans {a b c : World} (h : TxKept a b) (k : TxKept b c) : TxKept a c :=
  ⟨Nat.le_trans h.1 k.1, fun x cc t fr hx h1 h2 => (k.2 x cc t fr ((h.2 x cc t fr hx h1 h2).trans hx) h1 h2).trans (h.2 x cc t fr hx h1 h2)⟩
theorem TxKept.more {B p n c : Nat} {ao : Option Addr} {xs : List Value} {o : Obj} {w w2 : World} {v : Value} (hb : w.heap[p]? = some (.cells #[.slice ao n c] 122 (0, 0))) (hr : w.ownsRow B 5 1 (.slice ao n c) n xs) (hgrow : (w.alloc o).grownBy w2 (Value.slice ao n c).ownBlock) :
    TxKept w (w2.setCell ⟨p, 0, none⟩ v) := by
  refine ⟨by rw [setCell_size]; have := hgrow.size; simp at this; omega, fun b cc t fr hx h1 h2 => ?_⟩
  have hz := lt_of_blk' hx
  rw [Below.heap_setCell _ _ _ _ (fun e => ?_), hgrow.block b (by simp; omega) (fun e => ?_), Below.heap_alloc _ _ _ hz]
  · rcases hr.2 with ⟨e', _⟩ | ⟨g', cap', cur, e', _, hh, _⟩
    · rw [e'] at e; simp [Value.ownBlock] at e
    · rw [e'] at e; simp [Value.ownBlock] at e; subst e
      rw [hx] at hh; cases hh; exact h2 rfl
  · subst e; rw [hx] at hb; cases hb; exact h1 rfl

/-- A byte more. -/
theorem WrSt.more {B p g2 cap2 c : Nat} {ao : Option Addr} {bs : List Nat} {b : Nat} {o : Obj} {w0 w w2 : World} (hp : B ≤ p) (hb : w.heap[p]? = some (.cells #[.slice ao bs.length c] 122 (0, 0))) (hr : w.ownsRow B 5 1 (.slice ao bs.length c) bs.length (byts bs)) (hbel : Below B w0 w)
    (hown : w2.ownsRow B 5 1 (.slice (some ⟨g2, 0, none⟩) (bs.length + 1) cap2) (bs.length + 1) (byts bs ++ [.int .u8 (b : Int)])) (hgrow : (w.alloc o).grownBy w2 (Value.slice ao bs.length c).ownBlock) (hat : (Value.slice ao bs.length c).ownBlock = some g2 ∨ w.heap.size ≤ g2) :
    WrSt B p (bs ++ [b]) w0 (w2.setCell ⟨p, 0, none⟩ (.slice (some ⟨g2, 0, none⟩) (bs.length + 1) cap2)) := by
  have hpz := lt_of_blk' hb
  have hne : ∀ c', (Value.slice ao bs.length c).ownBlock = some c' → c' ≠ p := by
    intro c' e e'
    subst e'
    rcases hr.2 with ⟨e', _⟩ | ⟨g', cap', cur, e', _, hh, _⟩
    · rw [e'] at e; simp [Value.ownBlock] at e
    · rw [e'] at e; simp [Value.ownBlock] at e; subst e
      rw [hb] at hh; cases hh
  have hg2 : g2 ≠ p := by
    rcases hat with e | e
    · exact hne _ e
    · omega
  have hb2 : w2.heap[p]? = some (.cells #[.slice ao bs.length c] 122 (0, 0)) := (hgrow.block p (by simp; omega) (fun e => hne p e.symm rfl)).trans ((Below.heap_alloc _ _ _ hpz).trans hb)
  refine ⟨some ⟨g2, 0, none⟩, cap2, hp, ?_, ?_, ?_⟩
  · have := blk_set (i := 0) (.slice (some ⟨g2, 0, none⟩) (bs.length + 1) cap2) hb2
    simpa using this
  · rw [byts_snoc] at hown
    simp only [List.length_append, List.length_singleton]
    exact ownsRow_block hown (fun g e => by simp [Value.ownBlock] at e; subst e; exact Below.heap_setCell _ _ _ _ hg2)
  · refine Below.setCell ?_ hp _
    refine (hbel.alloc (by omega) _).grown hgrow (by simp; omega) (fun k hk => ?_)
    exact (hr.lt k hk).1

theorem wrapU64 (x : Int) : IntKind.u64.wrap x = ((u64 x : Nat) : Int) := by
  have : IntKind.u64.wrap x = x % 18446744073709551616 := by simp [IntKind.wrap, IntKind.bits, IntKind.signed]
  rw [this]; unfold u64; omega

set_option maxHeartbeats 1000000 in
set_option maxRecDepth 100000 in
theorem tput_any (B p n : Nat) (x : Int) (bs : List Nat) (w0 w : World) (h : WrSt B p bs w0 w) (hn : n ≤ 8) (hl : bs.length ≤ 1099511627776) :
    Calls Try.prog 65 #[.pointer (some ⟨p, 0, none⟩), .int .i64 x, .int .i64 (n : Int)] w fun e w' => e = .returned (.tuple #[]) ∧ WrSt B p (bs ++ leB n (u64 x)) w0 w' ∧ TxKept w w' := by
  obtain ⟨i0, hi0, hz0, hz1, hz2⟩ := info_parts Try.infoByte
  have HW := hid h
  have hu := u64_lt x
  have hB : B ≤ w.heap.size := by obtain ⟨_, _, h1, h2, _, _⟩ := h; have := lt_of_blk' h2; omega
  generalize hT : bs ++ leB n (u64 x) = T at *
  have HT := hid hT
  clear h hT
  go_enter Try.func65, Try.ntmps65
  go_wp2_with fail
  go_loopw [6, 7] (fun sr si wr => ∃ (j r : Nat) (cs : List Nat), j ≤ n ∧ sr = .int .u64 (r : Int) ∧ si = .int .i64 j ∧ r < 18446744073709551616 ∧ cs.length ≤ 1099511627776 + j ∧ Hid (cs ++ leB (n - j) r = T) ∧ Hid (WrSt B p cs w0 wr) ∧ Hid (TxKept w wr)) (fun _ si _ => n - (intOf si).toNat)
  case atStart => exact ⟨0, u64 x, bs, Nat.zero_le _, by rw [wrapU64], rfl, hu, hl, HT, HW, TxKept.refl _⟩
  case round =>
    obtain ⟨j, r, cs, hj, rfl, rfl, hr, hcl, Hc, Hw, Hk⟩ := hrel
    by_cases hlt : j < n
    · obtain ⟨ao, c, hp, hb, hrow, hbel⟩ := Hw.out
      obtain ⟨c0, cz⟩ := blk1 hb
      have HR := hid hrow
      have HB := hid hb
      have HL := hid hbel
      have hsz : B ≤ wr.heap.size := by have := lt_of_blk' hb; omega
      have HD : Hid (cs ++ [r % 256] ++ leB (n - (j + 1)) (r / 256) = T) := by
        have := Hc.out
        rw [show n - j = (n - (j + 1)) + 1 by omega, leB] at this
        unfold Hid
        rw [← this]; simp
      have HNE := hid (WrSt.apart hb hrow)
      have hpz := lt_of_blk' hb
      clear hrow hb hbel
      go_wp2_with (at_builtin; refine wpList_append_lies _ rfl (.tmp 19) (.tmp 23) 45 rfl B 5 i0 (.int .u8 0) 1 1 Try.underlying45 hi0 hz0 hz1 hz2 rfl (by decide) (.slice ao cs.length c) cs.length (byts cs) rfl (HR.out.alloc _) ⟨wr.heap.size, 0, none⟩ 1 1 [.int .u8 ((r : Int) % 256)] rfl rfl (one_new _ _ _) (one_cell _ _) (by decide) (by unfold maxLen; omega) (by omega) (by simp; omega) (wr.heap.size + 1) (by simp) ?_; intro g2 cap2 w2 hown2 hgrow2 hat2 hlt2; have hq := (hgrow2.block p (by simp; omega) (Ne.symm HNE.out)).trans ((Below.heap_alloc _ _ p hpz).trans HB.out); obtain ⟨q0, qz⟩ := blk1 hq)
      have HST := hid (WrSt.more (b := r % 256) hp HB.out HR.out HL.out (by simpa using hown2) hgrow2 (hat2.imp id (fun e => by omega)))
      have HKT := hid (Hk.out.trans (TxKept.more (v := .slice (some ⟨g2, 0, none⟩) (cs.length + 1) cap2) HB.out HR.out hgrow2))
      clear hown2 hgrow2 hat2 hlt2 hq
      go_roundw
      case rel => exact ⟨j + 1, r / 256, cs ++ [r % 256], by omega, by simp, by go_num, by omega, by simp; omega, HD, HST, HKT⟩
      case measure => simp [intOf]; omega
    · have HE : Hid (cs = T) := by have := Hc.out; rw [show n - j = 0 by omega, leB, List.append_nil] at this; exact this
      go_wp2
      go_end0
      refine ⟨rfl, ?_, Hk.out⟩
      have := Hw.out
      rw [HE.out] at this
      exact this

theorem byts_form {w : World} {B n c : Nat} {ao : Option Addr} {bs : List Nat} (h : w.ownsRow B 5 1 (.slice ao n c) n (byts bs)) : bs.length = n ∧ n ≤ maxLen ∧ ∀ t, t < n → ∃ g, ao = some ⟨g, 0, none⟩ ∧ g < w.heap.size ∧ w.cell? ⟨g, t, none⟩ = some (.int .u8 ((bs.getD t 0 : Nat) : Int)) := by
  have h' := h
  have hl : bs.length = n := by have := h.1; simpa [byts] using this
  refine ⟨hl, ?_⟩
  rcases h.2 with ⟨e, hn⟩ | ⟨g, cap, cur, e, hg, hh, hnc, hcm, hcs, ht⟩
  · exact ⟨by rw [hn]; exact Nat.zero_le _, fun t ht => by omega⟩
  · cases e
    refine ⟨by omega, fun t ht => ⟨g, rfl, ownsRow_lt h' rfl, ownsRow_cell h' ?_⟩⟩
    simp [byts, List.getD, hl, ht]

theorem ck_drop {bs : List Nat} {j : Nat} (h : j < bs.length) : bs.drop j = bs.getD j 0 :: bs.drop (j + 1) := by
  rw [List.drop_eq_getElem_cons h]; simp [List.getD, h]

set_option maxHeartbeats 1000000 in
theorem check_any (B p : Nat) (bs : List Nat) (w0 w : World) (h : WrSt B p bs w0 w) (hbs : ∀ x ∈ bs, x < 256) :
    Calls Try.prog 67 #[.pointer (some ⟨p, 0, none⟩)] w fun e w' => e = .returned (.tuple #[.int .i64 ((ckA bs 0 : Nat) : Int), .int .i64 ((ckB bs 0 0 : Nat) : Int)]) ∧ w' = w := by
  obtain ⟨ao, c, hp, hb, hrow, hbel⟩ := h
  obtain ⟨hl, hm, hf⟩ := byts_form hrow
  unfold maxLen at hm
  obtain ⟨c0, cz⟩ := blk1 hb
  have HF := hid hf
  have HBS := hid hbs
  generalize hn : bs.length = n at *
  have HN := hid hn
  clear hb hrow hbel hf hbs hn hl
  go_enter Try.func67, Try.ntmps67
  go_wp2_with fail
  go_loop [4, 5, 13] (fun sa sc si => ∃ j a c : Nat, j ≤ n ∧ sa = .int .i64 (a : Int) ∧ sc = .int .i64 (c : Int) ∧ si = .int .i64 j ∧ a < 256 ∧ c < 256 ∧ Hid (ckA (bs.drop j) a = ckA bs 0) ∧ Hid (ckB (bs.drop j) a c = ckB bs 0 0)) (fun _ _ si => n - (intOf si).toNat)
  case atStart => exact ⟨0, 0, 0, Nat.zero_le _, rfl, rfl, rfl, by decide, by decide, rfl, rfl⟩
  case round =>
    obtain ⟨j, a, k, hj, rfl, rfl, rfl, ha, hk, HA, HK⟩ := hrel
    by_cases hlt : j < n
    · obtain ⟨g, rfl, hg, hcell⟩ := HF.out j hlt
      have HD := hid (ck_drop (bs := bs) (j := j) (by rw [HN.out]; exact hlt))
      have hbd : bs.getD j 0 < 256 := by
        have : j < bs.length := by rw [HN.out]; exact hlt
        rw [List.getD_eq_getElem?_getD, List.getElem?_eq_getElem this]
        exact HBS.out _ (List.getElem_mem this)
      generalize bs.getD j 0 = b at *
      go_wp2
      go_round
      case rel =>
        refine ⟨j + 1, (a + b) % 256, (k + (a + b) % 256) % 256, by omega, by simp, by simp, by go_num, by omega, by omega, ?_, ?_⟩
        · have := HA.out; rw [HD.out, ckA] at this; exact this
        · have := HK.out; rw [HD.out, ckB] at this; exact this
      case measure => simp [intOf]; omega
    · have HE : Hid (a = ckA bs 0 ∧ k = ckB bs 0 0) := by
        have h1 := HA.out
        have h2 := HK.out
        rw [List.drop_eq_nil_of_le (by rw [HN.out]; omega)] at h1 h2
        exact ⟨h1, h2⟩
      go_wp2
      go_ret2
      exact ⟨by rw [HE.out.1, HE.out.2]; rfl, rfl⟩

end Go.Proofs.Ytklicjbpjigfdab

/- DERIVED. The walks over the tape: AreCoins, Left, Coins, Lay, Use. -/
namespace Go.Proofs.Ytklicjbpjigfdab
open Go.RowKit
attribute [local go_sem ↓] Go.wp_at_zero Go.wp_at_succ

/-- Is each byte a coin? -/
def areCoins (l : List UInt8) : Bool := l.all fun c => c == 48 || c == 49
/-- The coins of a text. -/
def coinsOf (l : List UInt8) : List Bool := l.map fun c => c == 49

theorem take_snoc (s : ByteArray) (k : Nat) (h : k < s.size) : s.data.toList.take (k + 1) = s.data.toList.take k ++ [s[k]] := by
  rw [List.take_succ_eq_append_getElem (by simpa using h)]; rfl
theorem u8_is (c : UInt8) (n : Nat) (hn : n < 256) : ((c.toNat : Int) = (n : Int)) ↔ c = UInt8.ofNat n := by
  constructor
  · intro h
    have : c.toNat = n := by omega
    apply UInt8.toNat_inj.1
    rw [this]; simp; omega
  · intro h
    subst h
    simp; omega

theorem areCoins_snoc {l : List UInt8} {c : UInt8} (h : areCoins l = true) (hc : (c.toNat : Int) = 48 ∨ (c.toNat : Int) = 49) : areCoins (l ++ [c]) = true := by
  have e : c = 48 ∨ c = 49 := hc.imp (fun h => (u8_is c 48 (by omega)).1 h) (fun h => (u8_is c 49 (by omega)).1 h)
  unfold areCoins at *
  rw [List.all_append, h]
  rcases e with rfl | rfl <;> rfl
theorem areCoins_not {s : ByteArray} {k : Nat} (hk : k < s.size) (h0 : ¬ (s[k].toNat : Int) = 48) (h1 : ¬ (s[k].toNat : Int) = 49) : areCoins s.data.toList = false := by
  unfold areCoins
  rw [List.all_eq_false]
  refine ⟨s[k], ?_, ?_⟩
  · exact Array.getElem_mem_toList (xs := s.data) (by simpa using hk)
  · intro h
    simp only [Bool.or_eq_true, beq_iff_eq] at h
    rcases h with h | h
    · exact h0 (by rw [h]; rfl)
    · exact h1 (by rw [h]; rfl)

set_option maxHeartbeats 400000 in
theorem areCoins_any (s : ByteArray) (w : World) (hs : s.size ≤ maxLen) :
    Calls Try.prog 106 #[.string s] w fun e w' => e = .returned (.bool (areCoins s.data.toList)) ∧ w' = w := by
  unfold maxLen at hs
  go_enter Try.func106, Try.ntmps106
  go_wp2
  go_loop [3] (fun i => ∃ k : Nat, k ≤ s.size ∧ i = .int .i64 k ∧ Hid (areCoins (s.data.toList.take k) = true)) (fun i => s.size - (intOf i).toNat)
  case atStart => exact ⟨0, Nat.zero_le _, rfl, rfl⟩
  case round =>
    obtain ⟨k, hk, rfl, Hc⟩ := hrel
    by_cases hlt : k < s.size
    · have HS := hid (take_snoc s k hlt)
      by_cases h0 : (s[k].toNat : Int) = 48
      · have h0' : ((s[k].toNat : Int) != 48) = false := by simp [h0]
        go_wp2
        go_round
        case rel => exact ⟨k + 1, by omega, by go_num, by rw [HS.out]; exact areCoins_snoc Hc.out (.inl h0)⟩
        case measure => simp [intOf]; omega
      · have h0' : ((s[k].toNat : Int) != 48) = true := by simp [h0]
        by_cases h1 : (s[k].toNat : Int) = 49
        · have h1' : ((s[k].toNat : Int) != 49) = false := by simp [h1]
          go_wp2
          go_round
          case rel => exact ⟨k + 1, by omega, by go_num, by rw [HS.out]; exact areCoins_snoc Hc.out (.inr h1)⟩
          case measure => simp [intOf]; omega
        · have h1' : ((s[k].toNat : Int) != 49) = true := by simp [h1]
          have HF := hid (areCoins_not hlt h0 h1)
          go_wp2
          go_ret
          exact ⟨by rw [HF.out]; rfl, rfl⟩
    · have HT : Hid (areCoins s.data.toList = true) := by have := Hc.out; rw [List.take_of_length_le (by simp; omega)] at this; exact this
      go_wp2
      go_ret
      exact ⟨by rw [HT.out]; rfl, rfl⟩

set_option maxHeartbeats 400000 in
theorem tapeLeft_any (d n cap : Nat) (ao : Option Addr) (w : World) (h : w.cell? ⟨d, 1, none⟩ = some (.slice ao n cap)) :
    Calls Try.prog 87 #[.pointer (some ⟨d, 1, none⟩)] w fun e w' => e = .returned (.int .i64 (n : Int)) ∧ w' = w := by
  go_enter Try.func87, Try.ntmps87
  go_wp2
  go_ret
  exact ⟨rfl, rfl⟩
set_option maxHeartbeats 400000 in
theorem coins_any (d n cap : Nat) (ao : Option Addr) (w : World) (h : w.cell? ⟨d, 1, none⟩ = some (.slice ao n cap)) :
    Calls Try.prog 102 #[.pointer (some ⟨d, 1, none⟩)] w fun e w' => e = .returned (.slice ao n cap) ∧ w' = w := by
  go_enter Try.func102, Try.ntmps102
  go_wp2
  go_ret
  exact ⟨rfl, rfl⟩

theorem Bools.kind {w : World} {v : Value} {xs : List Bool} (h : Bools w v xs) {b : Nat} (hb : v.ownBlock = some b) : ∃ c, w.heap[b]? = some (.cells c 4 (0, 0)) := by
  rcases h.2 with ⟨e, _⟩ | ⟨g2, c2, cur, e, _, hh, _⟩
  · rw [e] at hb; simp [Value.ownBlock] at hb
  · rw [e] at hb; simp [Value.ownBlock] at hb; subst hb; exact ⟨cur, hh⟩
theorem coin_eq (c : UInt8) : (c == 49) = ((c.toNat : Int) == 49) := by
  by_cases h : c = 49
  · subst h; rfl
  · rw [show (c == 49) = false by simpa using h]
    symm
    simp only [beq_eq_false_iff_ne, ne_eq]
    intro e
    exact h ((u8_is c 49 (by omega)).1 e)
/-- From w to w' no block has turned but those of S. -/
structure Fr (S : Nat → Prop) (w w' : World) : Prop where
  os : w'.os = w.os
  tape : w'.tape = w.tape
  output : w'.output = w.output
  size : w.heap.size ≤ w'.heap.size
  block : ∀ b, b < w.heap.size → ¬ S b → w'.heap[b]? = w.heap[b]?
theorem Fr.refl (S : Nat → Prop) (w : World) : Fr S w w := ⟨rfl, rfl, rfl, Nat.le_refl _, fun _ _ _ => rfl⟩
theorem Fr.trans {S T : Nat → Prop} {a b c : World} (h : Fr S a b) (k : Fr T b c) (hT : ∀ x, x < a.heap.size → T x → S x) : Fr S a c :=
  ⟨k.os.trans h.os, k.tape.trans h.tape, k.output.trans h.output, Nat.le_trans h.size k.size, fun x hx hS => (k.block x (Nat.lt_of_lt_of_le hx h.size) (fun hT' => hS (hT x hx hT'))).trans (h.block x hx hS)⟩
theorem Fr.mono {S T : Nat → Prop} {a b : World} (h : Fr S a b) (hT : ∀ x, x < a.heap.size → S x → T x) : Fr T a b := ⟨h.os, h.tape, h.output, h.size, fun x hx hS => h.block x hx (fun e => hS (hT x hx e))⟩
theorem Fr.below {S : Nat → Prop} {w w' : World} (h : Below w.heap.size w w') : Fr S w w' := ⟨h.os, h.tape, h.output, h.size, fun b hb _ => h.block b hb⟩
theorem Fr.toBelow {S : Nat → Prop} {w w' : World} {B : Nat} (h : Fr S w w') (hB : B ≤ w.heap.size) (hS : ∀ b, S b → B ≤ b) : Below B w w' := ⟨h.os, h.tape, h.output, h.size, fun b hb => h.block b (Nat.lt_of_lt_of_le hb hB) (fun e => by have := hS b e; omega)⟩
theorem Fr.set {S : Nat → Prop} {w w' : World} (h : Fr S w w') {a : Addr} (hS : a.block < w.heap.size → S a.block) (v : Value) : Fr S w (w'.setCell a v) :=
  ⟨h.os, h.tape, h.output, by rw [setCell_size]; exact h.size, fun b hb hn => by
    rw [Below.heap_setCell _ _ _ _ (fun e => hn (by subst e; exact hS hb))]; exact h.block b hb hn⟩

theorem drop_step {cs : List Bool} {j n : Nat} (h : j < cs.length) (hn : n ≤ j) : (cs.take (j + 1)).drop n = (cs.take j).drop n ++ [cs.getD j false] := by
  rw [List.take_succ_eq_append_getElem h, List.drop_append_of_le_length (by simp; omega)]; simp [List.getD, h]
theorem drop_none {cs : List Bool} {j n : Nat} (hn : j ≤ n) : (cs.take j).drop n = [] := List.drop_eq_nil_of_le (by simp; omega)
theorem below_fr {w w' : World} {d : Nat} (h : Below w.heap.size w w') {a : Addr} (ha : a.block = d) (v : Value) : Fr (fun b => b = d) w (w'.setCell a v) := (Fr.below h).set (fun _ => ha) v

set_option maxHeartbeats 1000000 in
set_option maxRecDepth 100000 in
theorem use_any (d n : Nat) (r vt vk : Value) (cs : List Bool) (w : World) (hd : w.heap[d]? = some (.cells #[r, vt, vk] 86 (0, 0))) (ht : Bools w vt cs) (hcs : cs.length ≤ 1048576) (hn : n ≤ 1048576) :
    Calls Try.prog 104 #[.pointer (some ⟨d, 1, none⟩), .int .i64 (n : Int)] w fun e w' => e = .returned (.tuple #[]) ∧ ∃ vt', w'.heap[d]? = some (.cells #[r, vt', vk] 86 (0, 0)) ∧ Bools w' vt' (cs.drop n) ∧ (vt' = vt ∨ ∀ b, vt'.ownBlock = some b → w.heap.size ≤ b) ∧ Fr (fun b => b = d) w w' := by
  obtain ⟨ao, ct, rfl, hcl, hcm, hnone, hsome⟩ := ht.form
  obtain ⟨c0, c1, c2, cz⟩ := blk3 hd
  have HD := hid hd
  have HT := hid ht
  have hdz := lt_of_blk' hd
  obtain ⟨i0, hi0, hz0, hz1, hz2⟩ := info_parts Try.infoBool
  generalize hcn : cs.length = cn at *
  have HCN := hid hcn
  have HNO := hid hnone
  have HSO := hid hsome
  clear hcn hd ht hnone hsome
  by_cases h0 : n < 1
  · have : n = 0 := by omega
    subst this
    go_enter Try.func104, Try.ntmps104
    go_wp2
    refine bodyPost_ret (v := .tuple #[]) (by simp [results, Try.results104]) rfl ?_
    exact ⟨rfl, _, HD.out, by rw [List.drop_zero]; exact HT.out, .inl rfl, Fr.refl _ _⟩
  · go_enter Try.func104, Try.ntmps104
    go_wp2
    go_loopw [4, 15] (fun sv si wr => ∃ (j g c : Nat) (xs : List Bool), j ≤ cn ∧ si = .int .i64 j ∧ sv = .slice (some ⟨g, 0, none⟩) xs.length c ∧ Hid (wr.ownsRow w.heap.size 4 1 (.slice (some ⟨g, 0, none⟩) xs.length c) xs.length (xs.map Value.bool)) ∧ Hid (xs = (cs.take j).drop n) ∧ Hid (Below w.heap.size w wr) ∧ xs.length ≤ j) (fun _ si _ => cn - (intOf si).toNat)
    case atStart => exact ⟨0, w.heap.size, 0, [], Nat.zero_le _, rfl, rfl, World.ownsRow_made w #[] 0 (Nat.le_refl _) (Nat.zero_le _) (by simp), by simp [Hid], (Below.refl _ _).alloc (Nat.le_refl _) _, Nat.le_refl _⟩
    case round =>
      obtain ⟨j, g, c, xs, hj, rfl, rfl, Hown, Hxs, Hb, hxl⟩ := hrel
      by_cases hlt : j < cn
      · obtain ⟨gc, rfl⟩ : ∃ g, ao = some ⟨g, 0, none⟩ := by
          cases ao with
          | none => have := (HNO.out rfl).1; rw [this] at HCN; have := HCN.out; simp at this; omega
          | some a => obtain ⟨g, rfl, _⟩ := HSO.out a rfl; exact ⟨g, rfl⟩
        obtain ⟨gc', e1, hgc, hcc⟩ := HSO.out _ rfl
        cases e1
        have hcell : wr.cell? ⟨gc, j, none⟩ = some (.bool (cs.getD j false)) := (Hb.out.cell (by exact hgc)).trans (hcc j hlt)
        have hwz := Hb.out.size
        clear hcc
        by_cases hnj : n ≤ j
        · have HX : Hid ((cs.take (j + 1)).drop n = xs ++ [cs.getD j false]) := by unfold Hid; rw [drop_step (by rw [HCN.out]; exact hlt) hnj, Hxs.out]
          generalize cs.getD j false = co at *
          go_wp2_with (at_builtin; refine wpList_append_lies _ rfl (.tmp 23) (.tmp 25) 81 rfl w.heap.size 4 i0 (.bool false) 1 1 Try.underlying81 hi0 hz0 hz1 hz2 rfl (by decide) (.slice (some ⟨g, 0, none⟩) xs.length c) xs.length (xs.map Value.bool) rfl (Hown.out.alloc _) ⟨wr.heap.size, 0, none⟩ 1 1 [.bool co] rfl rfl (one_new _ _ _) (one_bool _) (by decide) (by unfold maxLen; omega) (by omega) (by simp; omega) (wr.heap.size + 1) (by simp) ?_; intro g2 cap2 w1 hown1 hgrow1 hat1 hlt1)
          go_roundw
          case rel =>
            refine ⟨j + 1, g2, cap2, xs ++ [co], by omega, by go_num, by simp, ?_, HX.out.symm, ?_, by simp; omega⟩
            · simpa [Hid] using hown1
            · refine (Hb.out.alloc hwz _).grown hgrow1 (by simp; omega) (fun k hk => ?_)
              simp [Value.ownBlock] at hk
              subst hk
              exact (Hown.out.lt g rfl).1
          case measure => simp [intOf]; omega
        · have HX : Hid (xs = (cs.take (j + 1)).drop n) := by unfold Hid; rw [drop_none (by omega), Hxs.out, drop_none (by omega)]
          go_wp2
          go_roundw
          case rel => exact ⟨j + 1, g, c, xs, by omega, by go_num, rfl, Hown, HX, Hb, by omega⟩
          case measure => simp [intOf]; omega
      · have hjn : j = cn := by omega
        subst hjn
        have hdw := (Hb.out.block d hdz).trans HD.out
        obtain ⟨e0, e1, e2, ez⟩ := blk3 hdw
        have HDW := hid hdw
        clear hdw
        go_wp2
        go_end0
        refine ⟨rfl, .slice (some ⟨g, 0, none⟩) xs.length c, ?_, ?_, .inr ?_, below_fr (a := ⟨d, 1, none⟩) Hb.out rfl _⟩
        · have := blk_set (i := 1) (.slice (some ⟨g, 0, none⟩) xs.length c) HDW.out
          simpa using this
        · have hx := Hxs.out
          rw [List.take_of_length_le (by rw [HCN.out]; exact Nat.le_refl _)] at hx
          rw [← hx]
          refine ownsRow_block (ownsRow_base Hown.out (Nat.zero_le _)) (fun b hb => ?_)
          simp [Value.ownBlock] at hb
          subst hb
          have := (Hown.out.lt g rfl).1
          exact Below.heap_setCell _ _ _ _ (by simp; omega)
        · intro b hb
          simp [Value.ownBlock] at hb
          subst hb
          exact (Hown.out.lt g rfl).1

set_option maxHeartbeats 1000000 in
set_option maxRecDepth 100000 in
theorem lay_any (d : Nat) (r vt vk : Value) (cs : List Bool) (s : ByteArray) (w : World) (hd : w.heap[d]? = some (.cells #[r, vt, vk] 86 (0, 0))) (ht : Bools w vt cs) (hcs : cs.length ≤ 1048576) (hs : s.size ≤ 1048576) :
    Calls Try.prog 107 #[.pointer (some ⟨d, 1, none⟩), .string s] w fun e w' => e = .returned (.tuple #[]) ∧ ∃ vt', w'.heap[d]? = some (.cells #[r, vt', vk] 86 (0, 0)) ∧ Bools w' vt' (cs ++ coinsOf s.data.toList) ∧ (∀ b, vt'.ownBlock = some b → vt.ownBlock = some b ∨ w.heap.size ≤ b) ∧ Fr (fun b => b = d ∨ vt.ownBlock = some b) w w' := by
  have HD := hid hd
  have HT := hid ht
  have hdz := lt_of_blk' hd
  obtain ⟨i0, hi0, hz0, hz1, hz2⟩ := info_parts Try.infoBool
  clear hd ht
  go_enter Try.func107, Try.ntmps107
  go_wp2
  go_loopw [4] (fun si wr => ∃ (j : Nat) (v : Value), j ≤ s.size ∧ si = .int .i64 j ∧ Hid (wr.heap[d]? = some (.cells #[r, v, vk] 86 (0, 0))) ∧ Hid (Bools wr v (cs ++ coinsOf (s.data.toList.take j))) ∧ Hid (∀ b, v.ownBlock = some b → vt.ownBlock = some b ∨ w.heap.size ≤ b) ∧ Hid (Fr (fun b => b = d ∨ vt.ownBlock = some b) w wr)) (fun si _ => s.size - (intOf si).toNat)
  case atStart => exact ⟨0, vt, Nat.zero_le _, rfl, HD, by simpa [Hid, coinsOf] using HT.out, fun b h => .inl h, Fr.refl _ _⟩
  case round =>
    obtain ⟨j, v, hj, rfl, Hd, Hb, Hv, Hf⟩ := hrel
    by_cases hlt : j < s.size
    · obtain ⟨c0, c1, c2, cz⟩ := blk3 Hd.out
      have hdr := lt_of_blk' Hd.out
      have HS := hid (take_snoc s j hlt)
      obtain ⟨ao, c, rfl, hcl, hcm, hno, hso⟩ := Hb.out.form
      have HB := hid Hb.out
      have hln : (cs ++ coinsOf (s.data.toList.take j)).length ≤ 2097152 := by simp [coinsOf]; omega
      have hs1 : (0 : Int) ≤ (j : Int) := by omega
      have hs2 : (j : Int) < (s.size : Int) := by omega
      generalize hxs : cs ++ coinsOf (s.data.toList.take j) = xs at *
      have HXS := hid hxs
      generalize hco : ((s[j].toNat : Int) == 49) = co at *
      have HCO := hid hco
      have HNE : Hid (Value.ownBlock (.slice ao xs.length c) ≠ some d) := by
        intro e
        obtain ⟨cc, hc⟩ := HB.out.kind e
        rw [Hd.out] at hc; cases hc
      clear hxs hno hso Hb
      go_wp2
      go_region_law ((refine step_append_lies _ (by rfl) (.tmp 15) (.tmp 20) 81 (by rfl) 0 4 i0 (.bool false) 1 1 Try.underlying81 hi0 hz0 hz1 hz2 rfl (by decide) (.slice ao xs.length c) xs.length (xs.map Value.bool) (by rfl) (HB.out.alloc _) ⟨wr.heap.size, 0, none⟩ 1 1 [.bool co] (by rfl) rfl (one_new _ _ _) (one_bool _) (by decide) (by unfold maxLen; omega) (by omega) (Nat.zero_le _) (wr.heap.size + 1) (by simp) ?_; intro g2 cap2 w1 hown1 hgrow1 hat1 hlt1; have hq := (hgrow1.block d (by simp; omega) (Ne.symm HNE.out)).trans ((Below.heap_alloc wr _ d hdr).trans Hd.out); obtain ⟨q0, q1, q2, qz⟩ := blk3 hq))
      all_goals
        go_wp2
        go_roundw
        case rel =>
          have hfin : cs ++ coinsOf (s.data.toList.take (j + 1)) = xs ++ [co] := by
            rw [HS.out, coinsOf, List.map_append, ← List.append_assoc]
            have := HXS.out
            rw [coinsOf] at this
            rw [this, ← HCO.out, ← coin_eq]; rfl
          refine ⟨j + 1, .slice (some ⟨g2, 0, none⟩) (xs.length + 1) cap2, by omega, by go_num, ?_, ?_, ?_, ?_⟩
          · have := blk_set (i := 1) (.slice (some ⟨g2, 0, none⟩) (xs.length + 1) cap2) hq
            simpa [Hid] using this
          · rw [hfin]
            have ho : w1.ownsRow 0 4 1 (.slice (some ⟨g2, 0, none⟩) (xs.length + 1) cap2) (xs ++ [co]).length ((xs ++ [co]).map Value.bool) := by simpa using hown1
            refine ownsRow_block ho (fun b hb => Below.heap_setCell _ _ _ _ (fun e => ?_))
            simp at e
            subst e
            rcases ho.2 with ⟨e, _⟩ | ⟨g', c', cur, e, _, hh, _⟩
            · cases e
            · rw [e] at hb
              simp [Value.ownBlock] at hb
              subst hb
              rw [hq] at hh; cases hh
          · intro b hb
            simp [Value.ownBlock] at hb
            subst hb
            rcases hat1 with h | h
            · exact Hv.out g2 h
            · have := Hf.out.size; exact .inr (by omega)
          · refine Fr.set (Hf.out.trans (T := fun b => Value.ownBlock (.slice ao xs.length c) = some b) ⟨hgrow1.os, hgrow1.tape, hgrow1.output, by have := hgrow1.size; simp at this; omega, fun b hb hn => (hgrow1.block b (by simp; omega) (fun e => hn e.symm)).trans (Below.heap_alloc wr _ b hb)⟩ (fun x hx h => ?_)) (fun _ => .inl rfl) _
            rcases Hv.out x h with h | h
            · exact .inr h
            · omega
        case measure => simp [intOf]; omega
    · have HE : Hid (s.data.toList.take j = s.data.toList) := by unfold Hid; rw [List.take_of_length_le (by simp; omega)]
      have hb := Hb.out
      rw [HE.out] at hb
      have HB := hid hb
      clear hb Hb
      go_wp2
      go_end0
      exact ⟨rfl, v, Hd.out, HB.out, Hv.out, Hf.out⟩

end Go.Proofs.Ytklicjbpjigfdab

/- DERIVED. The walks of the text's reader: next, numbers. -/
namespace Go.Proofs.Ytklicjbpjigfdab
open Go.RowKit
attribute [local go_sem ↓] Go.wp_at_zero Go.wp_at_succ

/-- The bytes of a text. -/
def bytesOf (t : ByteArray) : List Nat := t.data.toList.map UInt8.toNat
theorem bytesOf_length (t : ByteArray) : (bytesOf t).length = t.size := by simp [bytesOf]
theorem bytesOf_lt (t : ByteArray) : ∀ x ∈ bytesOf t, x < 256 := by
  intro x hx
  simp only [bytesOf, List.mem_map] at hx
  obtain ⟨b, _, rfl⟩ := hx
  exact b.toNat_lt
theorem bytesOf_at {t : ByteArray} {i : Nat} (h : i < t.size) : (bytesOf t).getD i 0 = t[i].toNat := by
  simp only [bytesOf, List.getD_eq_getElem?_getD, List.getElem?_map]
  rw [List.getElem?_eq_getElem (by simpa using h)]
  rfl

theorem leV_snoc : ∀ (l : List Nat) (b : Nat), leV (l ++ [b]) = leV l + 256 ^ l.length * b
  | [], b => by simp [leV]
  | x :: l, b => by
    rw [List.cons_append, leV, leV, leV_snoc l b, List.length_cons, Nat.pow_succ, Nat.mul_add, ← Nat.mul_assoc, Nat.mul_comm 256 (256 ^ l.length)]
    omega
/-- The weight of byte j, as 64 bits hold it. -/
def pl (j : Nat) : Nat := if j < 8 then 256 ^ j else 0
theorem pl_lt {j : Nat} (h : j < 8) : pl j = 256 ^ j := by simp [pl, h]
theorem pl_bd (j : Nat) : pl j ≤ 72057594037927936 := by
  unfold pl
  split
  · next h => exact Nat.pow_le_pow_right (n := 256) (by decide) (show j ≤ 7 by omega)
  · omega
theorem pl_next {j : Nat} (h : j < 8) : IntKind.u64.wrap ((pl j : Int) * 256) = ((pl (j + 1) : Nat) : Int) := by
  have e : IntKind.u64.wrap ((pl j : Int) * 256) = ((pl j : Int) * 256) % 18446744073709551616 := by simp [IntKind.wrap, IntKind.bits, IntKind.signed]
  rw [e]
  rcases Nat.lt_or_ge j 7 with h7 | h7
  · have h1 : pl (j + 1) = pl j * 256 := by rw [pl_lt (by omega), pl_lt h, Nat.pow_succ]
    have h2 : pl j ≤ 281474976710656 := by rw [pl_lt h]; exact Nat.pow_le_pow_right (n := 256) (by decide) (show j ≤ 6 by omega)
    rw [h1]; omega
  · obtain rfl : j = 7 := by omega
    rfl

theorem u64_nat' {n : Nat} (h : n < 18446744073709551616) : u64 (n : Int) = n := by unfold u64; omega
/-- Where the reader stands: r is what it has not read yet. -/
def RdAt (w : World) (p : Nat) (t : ByteArray) (r : List Nat) : Prop := ∃ a : Nat, a ≤ t.size + 2 ∧ w.heap[p]? = some (.cells #[.string t, .int .i64 (a : Int)] 148 (0, 0)) ∧ (bytesOf t).drop a = r
theorem RdAt.keep {w w' : World} {p : Nat} {t : ByteArray} {r : List Nat} (h : RdAt w p t r) (hb : w'.heap[p]? = w.heap[p]?) : RdAt w' p t r := by
  obtain ⟨a, h1, h2, h3⟩ := h
  exact ⟨a, h1, hb.trans h2, h3⟩

theorem Fr.drewN {S : Nat → Prop} {w w' : World} (h : Fr S w w') (n : Nat) : Fr S w (w'.drewN n) := by
  have := below_drewN (Below.refl w'.heap.size w') n
  exact h.trans (T := fun _ => False) (Fr.below this) (fun _ _ h => h.elim)
theorem drewN_heap (w : World) (n b : Nat) : (w.drewN n).heap[b]? = w.heap[b]? := by
  rcases Nat.lt_or_ge b w.heap.size with h | h
  · exact (below_drewN (Below.refl w.heap.size w) n).block b h
  · rw [Array.getElem?_eq_none h, Array.getElem?_eq_none (by simpa using h)]

/-- What next leaves when it is done. -/
theorem next_done {w wr : World} {p m j a q N n : Nat} {t : ByteArray} {r : List Nat} (hR : (bytesOf t).drop a = r) (ha : a ≤ t.size + 2) (hn : n = t.size - a) (hm : m ≤ 8) (hjm : j ≤ m) (hjn : j ≤ n) (hN : N = leV (r.take j)) (hq : q = a + j) (hb : wr.heap[p]? = some (.cells #[.string t, .int .i64 (q : Int)] 148 (0, 0))) (hF : Fr (fun b => b = p) w wr) (he : r.take m = r.take j ∧ r.drop m = r.drop j) (nq : Nat) :
    Ending.returned (.int .i64 (wrap64 (N : Int))) = .returned (.int .i64 (s64 (leV (r.take m)))) ∧ RdAt (wr.drewN nq) p t (r.drop m) ∧ Fr (fun b => b = p) w (wr.drewN nq) := by
  refine ⟨?_, ⟨q, by omega, (drewN_heap _ _ _).trans hb, ?_⟩, hF.drewN nq⟩
  · have h1 : N < 18446744073709551616 := by
      rw [hN]
      refine Nat.lt_of_lt_of_le (leV_take (fun x hx => bytesOf_lt t x ?_) j) (Nat.pow_le_pow_right (n := 256) (by decide) (show j ≤ 8 by omega))
      rw [← hR] at hx
      exact List.mem_of_mem_drop hx
    rw [he.1, ← hN]
    unfold wrap64 s64
    split
    · rw [show ((N : Int) + 9223372036854775808) % 18446744073709551616 - 9223372036854775808 = (N : Int) by omega]
    · rw [show ((N : Int) + 9223372036854775808) % 18446744073709551616 - 9223372036854775808 = (N : Int) - 18446744073709551616 by omega]
  · rw [he.2, hq, ← hR, List.drop_drop]

set_option maxHeartbeats 2000000 in
set_option maxRecDepth 100000 in
theorem next_any (p m : Nat) (t : ByteArray) (r : List Nat) (w : World) (h : RdAt w p t r) (ht : t.size ≤ 140737488355328) (hm : m ≤ 8) :
    Calls Try.prog 88 #[.pointer (some ⟨p, 0, none⟩), .int .i64 (m : Int)] w fun e w' => e = .returned (.int .i64 (s64 (leV (r.take m)))) ∧ RdAt w' p t (r.drop m) ∧ Fr (fun b => b = p) w w' := by
  obtain ⟨a, ha, hb, hr⟩ := h
  have hpz := lt_of_blk' hb
  have hrl : r.length = t.size - a := by rw [← hr, List.length_drop, bytesOf_length]
  have HR := hid hr
  have HB := hid hb
  have hrb : ∀ x ∈ r, x < 256 := fun x hx => bytesOf_lt t x (by rw [← hr] at hx; exact List.mem_of_mem_drop hx)
  have HRB := hid hrb
  generalize hn : r.length = n at *
  have HN := hid hn
  clear hb hr hrb hn
  go_enter Try.func88, Try.ntmps88
  go_wp2_with fail
  go_loopw [5, 6, 7] (fun sn sp si wr => ∃ (j N q : Nat), j ≤ m ∧ j ≤ n ∧ sn = .int .u64 (N : Int) ∧ sp = .int .u64 ((pl j : Nat) : Int) ∧ si = .int .i64 j ∧ Hid (N = leV (r.take j)) ∧ Hid (q = a + j) ∧ wr.heap[p]? = some (.cells #[.string t, .int .i64 (q : Int)] 148 (0, 0)) ∧ Hid (Fr (fun b => b = p) w wr)) (fun _ _ si _ => m - (intOf si).toNat)
  case atStart => exact ⟨0, 0, a, Nat.zero_le _, Nat.zero_le _, rfl, rfl, rfl, by simp [Hid, leV], rfl, HB.out, Fr.refl _ _⟩
  case round =>
    obtain ⟨j, N, q, hjm, hjn, rfl, rfl, rfl, HNj, HQ, hbr, HF⟩ := hrel
    obtain ⟨c0, c1, cz⟩ := blk2 hbr
    have HBR := hid hbr
    clear hbr
    by_cases hlt : j < m
    · by_cases hin : j < n
      · have hqt : q < t.size := by have := HQ.out; omega
        have hin' : decide ((q : Int) < (t.size : Int)) = true := by simp; omega
        have HBT : Hid (r.getD j 0 = t[q].toNat) := by
          unfold Hid
          rw [← bytesOf_at hqt, ← HR.out, HQ.out]
          simp [List.getD]
        have hb1 : t[q].toNat < 256 := t[q].toNat_lt
        have HSN : Hid (leV (r.take (j + 1)) = N + pl j * t[q].toNat) := by
          have hjr : j < r.length := by rw [HN.out]; exact hin
          unfold Hid
          rw [List.take_succ_eq_append_getElem hjr, leV_snoc, ← HNj.out, List.length_take, Nat.min_eq_left (by omega), pl_lt (by omega), ← HBT.out]
          simp [List.getD, hjr]
        have hNb : N + pl j * t[q].toNat < 18446744073709551616 := by
          have h1 := leV_take HRB.out (j + 1)
          rw [HSN.out] at h1
          exact Nat.lt_of_lt_of_le h1 (Nat.pow_le_pow_right (n := 256) (by decide) (show j + 1 ≤ 8 by omega))
        have hpn := pl_next (show j < 8 by omega)
        generalize hbe : t[q].toNat = b at *
        have HBE := hid hbe
        clear hbe
        have hpb : ((pl j * b : Nat) : Int) = (pl j : Int) * (b : Int) := Int.natCast_mul ..
        have hw0 : IntKind.u64.wrap (b : Int) = (b : Int) := by rw [wrapU64, u64_nat' (by omega)]
        have hw1 : IntKind.u64.wrap ((pl j : Int) * (b : Int)) = (pl j : Int) * (b : Int) := by rw [← hpb, wrapU64, u64_nat' (by omega)]
        have hw2 : IntKind.u64.wrap ((N : Int) + (pl j : Int) * (b : Int)) = (N : Int) + (pl j : Int) * (b : Int) := by rw [← hpb, ← Int.natCast_add, wrapU64, u64_nat' (by omega)]
        have HPB := hid hpb
        clear hpb
        go_wp2_with fail
        go_quiet (fail)
        go_wp2_with fail
        go_quiet (fail)
        go_wp2_with fail
        go_roundw
        case rel =>
          refine ⟨j + 1, N + pl j * b, q + 1, by omega, by omega, ?_, ?_, by go_num, HSN.out.symm, by have := HQ.out; unfold Hid; omega, ?_, ?_⟩
          · rw [HBE.out, hw0, hw1, hw2, Int.natCast_add, HPB.out]
          · rfl
          · refine (blk_set (i := 1) (.int .i64 ((q : Int) + 1)) ((drewN_heap wr _ p).trans HBR.out)).trans ?_
            simp
          · exact (HF.out.drewN _).set (fun _ => rfl) _
        case measure => simp [intOf]; omega
      · have hqt : ¬ q < t.size := by have := HQ.out; omega
        have hin' : decide (q < t.size) = false := by simp; omega
        have HE : Hid (r.take m = r.take j ∧ r.drop m = r.drop j) := by
          have h1 : r.length ≤ j := by rw [HN.out]; omega
          exact ⟨by rw [List.take_of_length_le (by omega), List.take_of_length_le h1], by rw [List.drop_eq_nil_of_le (by omega), List.drop_eq_nil_of_le h1]⟩
        go_wp2_with fail
        go_quiet (fail)
        go_wp2_with fail
        go_ret
        exact next_done HR.out ha hrl hm hjm hjn HNj.out HQ.out HBR.out HF.out HE.out nq
    · have HE : Hid (r.take m = r.take j ∧ r.drop m = r.drop j) := by obtain rfl : j = m := (by omega); exact ⟨rfl, rfl⟩
      have hlt' : decide (j < m) = false := by simp; omega
      go_wp2_with fail
      go_quiet (fail)
      go_wp2_with fail
      go_ret
      exact next_done HR.out ha hrl hm hjm hjn HNj.out HQ.out HBR.out HF.out HE.out nq

theorem toldNums_snoc : ∀ (j : Nat) (r : List Nat), toldNums (j + 1) r = toldNums j r ++ [s64 (leV ((r.drop (8 * j)).take 8))]
  | 0, r => by simp [toldNums]
  | j + 1, r => by
    rw [toldNums, toldNums_snoc j (r.drop 8), toldNums, List.cons_append, List.drop_drop, show 8 + 8 * j = 8 * (j + 1) by omega]
/-- A list of which the first j are read. -/
def rowAt (j m : Nat) (r : List Nat) : List Int := toldNums j r ++ List.replicate (m - j) 0
theorem rowAt_length {j m : Nat} (r : List Nat) (h : j ≤ m) : (rowAt j m r).length = m := by simp [rowAt, toldNums_length]; omega
theorem rowAt_set {j m : Nat} (r : List Nat) (h : j < m) : (rowAt j m r).set j (s64 (leV ((r.drop (8 * j)).take 8))) = rowAt (j + 1) m r := by
  unfold rowAt
  obtain ⟨d, hd⟩ : ∃ d, m - j = d + 1 := ⟨m - j - 1, by omega⟩
  rw [List.set_append_right _ _ (by rw [toldNums_length]; exact Nat.le_refl _), toldNums_length, Nat.sub_self, hd, List.replicate_succ, List.set_cons_zero, toldNums_snoc, List.append_assoc, show m - (j + 1) = d by omega]
  rfl
theorem made_zeros (m : Nat) (r : List Nat) : (madeCells (Value.int .i64 0).cells (m * 1)).toList = ints (rowAt 0 m r) := by
  have e : (Value.int IntKind.i64 0).cells = #[Value.int .i64 0] := rfl
  rw [e, Nat.mul_one]
  unfold madeCells rowAt ints
  apply List.ext_getElem (by simp [toldNums])
  intro i h1 h2
  simp [toldNums, Nat.mod_one]

set_option maxHeartbeats 1000000 in
set_option maxRecDepth 100000 in
theorem numbers_any (p m : Nat) (t : ByteArray) (r : List Nat) (w : World) (h : RdAt w p t r) (ht : t.size ≤ 140737488355328) (hm : m < 256) :
    Calls Try.prog 89 #[.pointer (some ⟨p, 0, none⟩), .int .i64 (m : Int)] w fun e w' => e = .returned (.slice (some ⟨w.heap.size, 0, none⟩) m m) ∧ w'.ownsRow w.heap.size 3 1 (.slice (some ⟨w.heap.size, 0, none⟩) m m) m (ints (toldNums m r)) ∧ RdAt w' p t (r.drop (8 * m)) ∧ Fr (fun b => b = p) w w' := by
  obtain ⟨i0, hi0, hz0, hz1, hz2⟩ := info_parts Try.infoInt
  have HRD := hid h
  have hpz : p < w.heap.size := by obtain ⟨a, _, h2, _⟩ := h; exact lt_of_blk' h2
  have HNX := hid (fun (r' : List Nat) (w' : World) (h' : RdAt w' p t r') => next_any p 8 t r' w' h' ht (by decide))
  clear h
  go_enter Try.func89, Try.ntmps89
  go_wp2_with (first | (at_make; refine wpList_make_full _ rfl _ _ 91 rfl w.heap.size 3 i0 (.int .i64 0) 1 Try.underlying91 hi0 hz0 hz1 _ _ _ _ m rfl rfl (by rfl) (by rfl) (by rw [hz2]; omega) (by unfold maxLen; omega) (Nat.le_refl _) ?_; intro w1 hown1 hgrow1))
  have HO1 : Hid (w1.ownsRow w.heap.size 3 1 (.slice (some ⟨w.heap.size, 0, none⟩) m m) m (ints (rowAt 0 m r))) := by rw [made_zeros m r] at hown1; exact hown1
  have HF1 : Hid (Fr (fun b => b = p) w w1) := Fr.below ((Below.refl _ _).grown hgrow1 (Nat.le_refl _) (fun k h => by cases h))
  have HR1 : Hid (RdAt w1 p t r) := HRD.out.keep (hgrow1.block p hpz (by simp))
  generalize hG : w.heap.size = G at *
  have HG := hid hG
  clear hown1 hgrow1 hG
  go_loopw [11] (fun si wr => ∃ j : Nat, j ≤ m ∧ si = .int .i64 j ∧ Hid (wr.ownsRow G 3 1 (.slice (some ⟨G, 0, none⟩) m m) m (ints (rowAt j m r))) ∧ Hid (RdAt wr p t (r.drop (8 * j))) ∧ Hid (Fr (fun b => b = p) w wr)) (fun si _ => m - (intOf si).toNat)
  case atStart => exact ⟨0, Nat.zero_le _, rfl, HO1, HR1, HF1⟩
  case round =>
    obtain ⟨j, hj, rfl, HO, HR, HF⟩ := hrel
    by_cases hlt : j < m
    · go_wp2_with fail
      refine (HNX.out _ _ HR.out).mono ?_
      rintro e w2 ⟨rfl, hr2, hf2⟩
      have hown2 : w2.ownsRow G 3 1 (.slice (some ⟨G, 0, none⟩) m m) m (ints (rowAt j m r)) := ownsRow_block HO.out (fun g e => by simp [Value.ownBlock] at e; subst e; exact hf2.block _ (ownsRow_lt HO.out rfl) (by omega))
      have hgz : G < w2.heap.size := ownsRow_lt hown2 rfl
      have hcell : w2.cell? ⟨G, j, none⟩ = some (.int .i64 ((rowAt j m r).getD j 0)) := ownsRow_cell hown2 (by have hl := rowAt_length r hj; simp [ints, List.getD, hl, hlt])
      have hfz : ∀ o, w2.frozen? ⟨G, o, none⟩ = false := fun o => by
        rcases hown2.2 with ⟨e, _⟩ | ⟨g', c', cur, e, _, hh, _⟩
        · cases e
        · cases e; simp [World.frozen?, hh]
      have HST := hid ((hown2.stored j (.int .i64 (s64 (leV ((r.drop (8 * j)).take 8))))).1)
      have HRS := hid (rowAt_set r hlt)
      have HDD : Hid ((r.drop (8 * j)).drop 8 = r.drop (8 * (j + 1))) := by unfold Hid; rw [List.drop_drop, show 8 * j + 8 = 8 * (j + 1) by omega]
      have HF2 := hid hf2
      have HR2 := hid hr2
      generalize s64 (leV ((r.drop (8 * j)).take 8)) = x at *
      generalize (rowAt j m r).getD j 0 = y at *
      clear hown2 hf2 hr2
      go_wp2_with fail
      go_roundw
      case rel =>
        refine ⟨j + 1, by omega, by go_num, ?_, ?_, ?_⟩
        · have := HST.out
          rw [show (ints (rowAt j m r)).set j (.int .i64 x) = ints (rowAt (j + 1) m r) from by rw [← HRS.out]; simp [ints, List.map_set]] at this
          exact this
        · have := HR2.out
          rw [HDD.out] at this
          exact this.keep (Below.heap_setCell _ _ _ _ (by simp; omega))
        · refine Fr.set (HF.out.trans HF2.out (fun _ _ h => h)) (fun hlt' => ?_) _
          have := HG.out
          simp at hlt'; omega
      case measure => simp [intOf]; omega
    · obtain rfl : j = m := by omega
      go_wp2_with fail
      go_ret
      rw [HG.out]
      refine ⟨rfl, ?_, HR.out, HF.out⟩
      have := HO.out
      simpa [rowAt] using this

end Go.Proofs.Ytklicjbpjigfdab
