/- DERIVED. The walks of a sketch's Size and Ledger. -/
import Derived.Test.YtklicjbpjigfdabGreatQ2
import Derived.Deep.AppendLies
import Derived.Test.YtklicjbpjigfdabGreatQ1
import Derived.Deep.RegionHeld3
import Derived.Deep.DrawnRows
import Derived.Deep.RegionLaw
import Derived.Test.YtklicjbpjigfdabGreatSetW
import Derived.Test.YtklicjbpjigfdabGreatWithW
import Derived.Deep.QuietTactic
import Derived.BigQuiet
import Derived.WalkSmall
namespace Go.Proofs.YtklicjbpjigfdabGreat
open Go.RowKit
variable {F : Nat → Prop}

set_option maxHeartbeats 400000 in
set_option maxRecDepth 100000 in
theorem size_any (k g cap : Nat) (lo hi : Int) (vs : List Value) (L : List Lvl) (w : World) (hL : LvAt F w g cap vs L) (hlen : L.length ≤ 30) (hbd : wsum L ≤ 1099511627776) :
    Calls Tryz.prog 69 #[skVal k g L.length cap lo hi] w fun e w' => e = .returned (.agg #[.int .i64 (k : Int), .int .i64 (wsum L : Int), .int .i64 (nsum L : Int), .int .i64 (L.length : Int)]) ∧ Below w.heap.size w w' := by
  have hnl := nsum_le L
  have H1 := hid (fun (w' : World) (h : LvAt F w' g cap vs L) => count_any k g cap lo hi vs L w' h hlen hbd)
  have H2 := hid (fun (w' : World) (h : LvAt F w' g cap vs L) => items_any k g cap lo hi vs L w' h (by omega) (by omega))
  go_enter Tryz.func69, Tryz.ntmps69
  go_wp2_with fail
  have hbW := ((Below.refl w.heap.size w).alloc (Nat.le_refl _) (.cells #[.int .i64 (k : Int), .slice (some ⟨g, 0, none⟩) L.length cap, .int .i64 lo, .int .i64 hi] 64)).alloc (by simp) (.cells #[.int .i64 0, .int .i64 0, .int .i64 0, .int .i64 0] 81)
  have hk0 : ((w.alloc (.cells #[.int .i64 (k : Int), .slice (some ⟨g, 0, none⟩) L.length cap, .int .i64 lo, .int .i64 hi] 64)).alloc (.cells #[.int .i64 0, .int .i64 0, .int .i64 0, .int .i64 0] 81)).heap[w.heap.size]? = some (skBlk k g L.length cap lo hi) := by rw [Below.heap_alloc _ _ _ (by simp)]; exact heap_alloc_new _ _
  have hk1 : ((w.alloc (.cells #[.int .i64 (k : Int), .slice (some ⟨g, 0, none⟩) L.length cap, .int .i64 lo, .int .i64 hi] 64)).alloc (.cells #[.int .i64 0, .int .i64 0, .int .i64 0, .int .i64 0] 81)).heap[w.heap.size + 1]? = some (.cells #[.int .i64 0, .int .i64 0, .int .i64 0, .int .i64 0] 81 (0, 0)) := by rw [show w.heap.size + 1 = (w.alloc (.cells #[.int .i64 (k : Int), .slice (some ⟨g, 0, none⟩) L.length cap, .int .i64 lo, .int .i64 hi] 64)).heap.size by simp]; exact heap_alloc_new _ _
  generalize hWe : (w.alloc (.cells #[.int .i64 (k : Int), .slice (some ⟨g, 0, none⟩) L.length cap, .int .i64 lo, .int .i64 hi] 64)).alloc (.cells #[.int .i64 0, .int .i64 0, .int .i64 0, .int .i64 0] 81) = W at *
  clear hWe
  refine (H1.out _ (hL.below hbW)).mono ?_
  rintro e w1 ⟨rfl, hb1⟩
  have h1 := hbW.trans (hb1.mono hbW.size)
  have hk2 := (hb1.block _ (lt_of_blk' hk0)).trans hk0
  have hk3 := (hb1.block _ (lt_of_blk' hk1)).trans hk1
  obtain ⟨c0, c1, c2, c3, cz⟩ := blk4 hk2
  have Hk2 := hid hk2
  have Hk3 := hid hk3
  clear hk0 hk1 hb1 hbW hk2 hk3
  go_wp2_with fail
  refine (H2.out _ (hL.below h1)).mono ?_
  rintro e w2 ⟨rfl, hb2⟩
  have hk4 := (hb2.block _ (lt_of_blk' Hk2.out)).trans Hk2.out
  have hk5 := (hb2.block _ (lt_of_blk' Hk3.out)).trans Hk3.out
  have HB := hid (h1.trans (hb2.mono h1.size))
  obtain ⟨d0, d1, d2, d3, dz⟩ := blk4 hk4
  obtain ⟨e0, e1, e2, e3, ez⟩ := blk4 hk5
  clear c0 c1 c2 c3 cz hk4 hk5 hb2 h1
  go_wp2_with fail
  exact bodyPost_ret (v := .agg #[.int .i64 (k : Int), .int .i64 (wsum L : Int), .int .i64 (nsum L : Int), .int .i64 (L.length : Int)]) (by simp [results, Tryz.results69, go_sem, e0, e1, e2, e3]) rfl ⟨rfl, below_set4 HB.out (by omega) _ _ _ _⟩

theorem set3_other {w : World} {r g : Nat} (a b c : Value) (h : g ≠ r) : (((w.setCell ⟨r, 0, none⟩ a).setCell ⟨r, 1, none⟩ b).setCell ⟨r, 2, none⟩ c).heap[g]? = w.heap[g]? := by
  rw [Below.heap_setCell _ _ _ _ h, Below.heap_setCell _ _ _ _ h, Below.heap_setCell _ _ _ _ h]
theorem below_set3 {B r : Nat} {w0 w : World} (h : Below B w0 w) (hr : B ≤ r) (a b c : Value) : Below B w0 (((w.setCell ⟨r, 0, none⟩ a).setCell ⟨r, 1, none⟩ b).setCell ⟨r, 2, none⟩ c) :=
  ((h.setCell hr a).setCell hr b).setCell hr c

set_option maxHeartbeats 1000000 in
set_option maxRecDepth 100000 in
theorem ledger_any (k g cap : Nat) (lo hi : Int) (vs : List Value) (L : List Lvl) (w : World) (hL : LvAt F w g cap vs L) (hlen : L.length ≤ 30) (hbd : ssum L ≤ 1152921504606846976) :
    Calls Tryz.prog 72 #[skVal k g L.length cap lo hi] w fun e w' => ∃ gt ct, e = .returned (.agg #[.slice (some ⟨gt, 0, none⟩) L.length ct, .int .i64 (esum L : Int), .int .i64 (ssum L : Int)]) ∧ w.heap.size ≤ gt ∧ w'.ownsRow 0 3 1 (.slice (some ⟨gt, 0, none⟩) L.length ct) L.length (ints (timesOf L)) ∧ Below w.heap.size w w' := by
  obtain ⟨i0, hi0, hz0, hz1, hz2⟩ := info_parts Tryz.infoInt
  have hel := esum_le L
  obtain ⟨n, hn⟩ : ∃ n, n = L.length := ⟨_, rfl⟩
  have HN : Hid (n = L.length) := hn
  rw [← hn] at hlen ⊢
  clear hn
  go_enter Tryz.func72, Tryz.ntmps72
  go_wp2_with (at_make; refine wpList_make_own _ rfl _ _ 28 rfl (w.heap.size + 1 + 1) 3 i0 (.int .i64 0) 1 Tryz.underlying28 hi0 hz0 hz1 _ _ _ n rfl rfl (by omega) (by rw [hz2]; omega) (by unfold maxLen; omega) (by simp) ?_; intro w1 hown1 hgrow1; have hk0 := grown_new2 hgrow1 (by simp); have hk1 := grown_new2' hgrow1 (by simp); obtain ⟨c0, c1, c2, c3, cz⟩ := blk4 hk0; have hw1z := hgrow1.size; simp at hw1z hown1; have hzz : w.heap.size < w1.heap.size := by { omega }; have HK0 := hid hk0; have HK1 := hid hk1; have HO1 := hid hown1; have HG1 := hid hgrow1; clear hk0 hk1 hown1 hgrow1)
  have HB1 : Hid (Below w.heap.size w w1) := (((Below.refl _ _).alloc (Nat.le_refl _) _).alloc (by simp) _).grown HG1.out (by simp; omega) (fun k h => by cases h)
  have HL1 := hid (hL.below HB1.out)
  have hgt : w.heap.size + 1 + 1 < w1.heap.size := ownsRow_lt HO1.out rfl
  generalize hbl : w1.heap.size = bl at *
  have HBL := hid hbl
  clear hbl c0 c1 c2 c3 cz
  go_loopw [4, 15] (fun sp si wr => ∃ (j c1 c2 : Nat), j ≤ n ∧ si = .int .i64 j ∧ sp = .int .i64 ((2 ^ j : Nat) : Int) ∧ Hid (c1 + 2 ^ j * esum (L.drop j) = esum L) ∧ Hid (c2 + 2 ^ j * 2 ^ j * ssum (L.drop j) = ssum L) ∧
      Hid (wr.heap[bl]? = some (.cells #[.slice (some ⟨w.heap.size + 1 + 1, 0, none⟩) j n, .int .i64 (c1 : Int), .int .i64 (c2 : Int)] 97 (0, 0))) ∧
      Hid (wr.ownsRow (w.heap.size + 1 + 1) 3 1 (.slice (some ⟨w.heap.size + 1 + 1, 0, none⟩) j n) j (ints (timesOf (L.take j)))) ∧ Hid (Below (w.heap.size + 1 + 1) w1 wr)) (fun _ si _ => n - (intOf si).toNat)
  case atStart =>
    refine ⟨0, 0, 0, Nat.zero_le _, rfl, rfl, by simp [Hid], by simp [Hid], ?_, HO1.out.alloc _, (Below.refl _ _).alloc (by rw [HBL.out]; exact hw1z) _⟩
    have := heap_alloc_new w1 (.cells #[.slice (some ⟨w.heap.size + 1 + 1, 0, none⟩) 0 n, .int .i64 0, .int .i64 0] 97 (0, 0))
    rw [HBL.out] at this
    exact this
  case round =>
    obtain ⟨j, c1, c2, hj, rfl, rfl, Hc1, Hc2, Hbl, Hown, Hbel⟩ := hrel
    obtain ⟨f0, f1, f2, fz⟩ := blk3 Hbl.out
    by_cases hlt : j < n
    · have hlt' : j < L.length := by rw [← HN.out]; exact hlt
      have hLr : LvAt F wr g cap vs L := by
        have hb : Below w.heap.size w wr := HB1.out.trans (Hbel.out.mono (by omega))
        exact hL.below hb
      obtain ⟨ao, cc, ev⟩ := hLr.itemsForm hlt'
      have g0 : wr.cell? ⟨g, j * 2, none⟩ = some (.slice ao (L.getD j Lvl.none).items.length cc) := (hLr.cell0 hlt').trans (by rw [ev])
      have g1 : wr.cell? ⟨g, j * 2 + 1, none⟩ = some (.int .i64 ((L.getD j Lvl.none).times : Int)) := hLr.cell1 hlt'
      have HS1 : Hid ((c1 + 2 ^ j * (L.getD j Lvl.none).times) + (2 ^ j * 2) * esum (L.drop (j + 1)) = esum L) := estep hlt' Hc1.out
      have HS2 : Hid ((c2 + 2 ^ j * 2 ^ j * (L.getD j Lvl.none).times) + ((2 ^ j * 2) * (2 ^ j * 2)) * ssum (L.drop (j + 1)) = ssum L) := sstep hlt' Hc2.out
      have HTI : Hid (timesOf (L.take (j + 1)) = timesOf (L.take j) ++ [((L.getD j Lvl.none).times : Int)]) := timesOf_step hlt'
      have HP : Hid (2 ^ (j + 1) = 2 ^ j * 2) := Nat.pow_succ ..
      have b2 := pow2_bd (j := j) (by omega)
      have hgw := hLr.lt
      have hgne : g < bl := by have := hL.lt; omega
      have hblw : bl < wr.heap.size := lt_of_blk' Hbl.out
      generalize (L.getD j Lvl.none).items.length = m at *
      generalize (L.getD j Lvl.none).times = tm at *
      generalize 2 ^ j = p at *
      have m1 : (c1 : Int) + (tm : Int) * (p : Int) ≤ 1152921504606846976 := by
        have := HS1.out
        rw [← Int.natCast_mul, Nat.mul_comm tm p]
        generalize p * tm = q1 at *
        omega
      have m2 : (c2 : Int) + (tm : Int) * (p : Int) * (p : Int) ≤ 1152921504606846976 := by
        have := HS2.out
        rw [← Int.natCast_mul, ← Int.natCast_mul, show tm * p * p = p * p * tm by rw [Nat.mul_assoc, Nat.mul_comm]]
        generalize p * p * tm = q2 at *
        omega
      have m3 : 0 ≤ (tm : Int) * (p : Int) := mul_nn _ _
      have m4 : 0 ≤ (tm : Int) * (p : Int) * (p : Int) := by rw [← Int.natCast_mul]; exact mul_nn _ _
      clear ev hLr
      go_wp2_with (at_builtin; refine wpList_append_fits _ rfl (.tmp 20) (.tmp 23) 28 rfl (w.heap.size + 1 + 1) 3 i0 1 Tryz.underlying28 hi0 hz1 (w.heap.size + 1 + 1) j n _ rfl ((Hown.out.alloc _).alloc _) ⟨wr.heap.size + 1, 0, none⟩ 1 1 [.int .i64 (tm : Int)] rfl rfl (one_new' (by simp) _ _) (one_cell _ _) (by omega) ?_; intro w3 hown3 hgrow3; have k0 := grow_blk2 Hbl.out hgrow3 (by omega); obtain ⟨p0, p1, p2, pz⟩ := blk3 k0; have k1 := grown_new2 hgrow3 (by simp; omega); obtain ⟨q0, q1, qz⟩ := blk2 k1; have HK2 := hid k0; have HK3 := hid k1; have HO3 := hid hown3; have HG3 := hid hgrow3; clear k0 k1 hown3 hgrow3)
      go_roundw
      case rel =>
        refine ⟨j + 1, c1 + p * tm, c2 + p * p * tm, by omega, by go_num, by rw [HP.out]; go_num, by rw [HP.out]; exact HS1, by rw [HP.out]; exact HS2, ?_, ?_, ?_⟩
        · have h3 := blk_set (i := 2) (.int .i64 ((c2 : Int) + (tm : Int) * (p : Int) * (p : Int))) (blk_set (i := 1) (.int .i64 ((c1 : Int) + (tm : Int) * (p : Int))) (blk_set (i := 0) (.slice (some ⟨w.heap.size + 1 + 1, 0, none⟩) (j + 1) n) HK2.out))
          have e1 : ((c1 + p * tm : Nat) : Int) = (c1 : Int) + (tm : Int) * (p : Int) := by rw [Int.natCast_add, Int.natCast_mul, Int.mul_comm]
          have e2 : ((c2 + p * p * tm : Nat) : Int) = (c2 : Int) + (tm : Int) * (p : Int) * (p : Int) := by rw [Int.natCast_add, Int.natCast_mul, Int.natCast_mul, Int.mul_assoc, Int.mul_comm, Int.mul_comm (p : Int) (tm : Int)]
          rw [e1, e2]
          simpa [Hid] using h3
        · rw [HTI.out, ints_append]
          exact ownsRow_block HO3.out (fun b hb => by simp [Value.ownBlock] at hb; subst hb; exact set3_other _ _ _ (by omega))
        · refine below_set3 ?_ (by omega) _ _ _
          exact ((Hbel.out.alloc (by omega) _).alloc (by simp; omega) _).grown HG3.out (by simp; omega) (fun k hk => by cases hk; exact Nat.le_refl _)
      case measure => simp [intOf]; omega
    · have hjn : j = n := by omega
      subst hjn
      have HE1 : Hid (c1 = esum L) := by have := Hc1.out; rw [esum_end L j (by rw [← HN.out]; exact Nat.le_refl _)] at this; unfold Hid; omega
      have HE2 : Hid (c2 = ssum L) := by have := Hc2.out; rw [ssum_end L j (by rw [← HN.out]; exact Nat.le_refl _)] at this; unfold Hid; omega
      have HE3 : Hid (L.take j = L) := by unfold Hid; rw [HN.out]; simp
      have hr := (Hbel.out.block (w.heap.size + 1) (by omega)).trans HK1.out
      obtain ⟨r0, r1, r2, rz⟩ := blk3 hr
      have HR := hid hr
      clear hr
      go_wp2_with fail
      refine bodyPost_ret (v := .agg #[.slice (some ⟨w.heap.size + 1 + 1, 0, none⟩) j j, .int .i64 (c1 : Int), .int .i64 (c2 : Int)]) (by simp [results, Tryz.results72, go_sem, r0, r1, r2]) rfl ⟨w.heap.size + 1 + 1, j, ?_, by omega, ?_, ?_⟩
      · rw [HE1.out, HE2.out]
      · have ho := Hown.out
        rw [HE3.out] at ho
        exact ownsRow_block (ownsRow_base ho (Nat.zero_le _)) (fun b hb => by simp [Value.ownBlock] at hb; subst hb; exact set3_other _ _ _ (by omega))
      · exact below_set3 (HB1.out.trans (Hbel.out.mono (by omega))) (by omega) _ _ _

end Go.Proofs.YtklicjbpjigfdabGreat

/- DERIVED. The walks over the tape: AreCoins, Left, Coins, Lay, Use. -/
namespace Go.Proofs.YtklicjbpjigfdabGreat
open Go.RowKit
attribute [local go_sem ↓] Go.wp_at_zero Go.wp_at_succ

/-- Is each byte a coin? -/
def areCoins (l : List UInt8) : Bool := l.all fun c => c == 48 || c == 49
/-- The coins of a text. -/
def coinsOf (l : List UInt8) : List Bool := l.map fun c => c == 49

theorem take_snoc (s : ByteArray) (k : Nat) (h : k < s.size) : s.data.toList.take (k + 1) = s.data.toList.take k ++ [s[k]] := by
  rw [List.take_succ_eq_append_getElem (by simpa using h)]; rfl
theorem u8_is (c : UInt8) (n : Nat) (hn : n < 256) : ((c.toNat : Int) = (n : Int)) ↔ c = UInt8.ofNat n := by
  constructor
  · intro h
    have : c.toNat = n := by omega
    apply UInt8.toNat_inj.1
    rw [this]; simp; omega
  · intro h
    subst h
    simp; omega

theorem areCoins_snoc {l : List UInt8} {c : UInt8} (h : areCoins l = true) (hc : (c.toNat : Int) = 48 ∨ (c.toNat : Int) = 49) : areCoins (l ++ [c]) = true := by
  have e : c = 48 ∨ c = 49 := hc.imp (fun h => (u8_is c 48 (by omega)).1 h) (fun h => (u8_is c 49 (by omega)).1 h)
  unfold areCoins at *
  rw [List.all_append, h]
  rcases e with rfl | rfl <;> rfl
theorem areCoins_not {s : ByteArray} {k : Nat} (hk : k < s.size) (h0 : ¬ (s[k].toNat : Int) = 48) (h1 : ¬ (s[k].toNat : Int) = 49) : areCoins s.data.toList = false := by
  unfold areCoins
  rw [List.all_eq_false]
  refine ⟨s[k], ?_, ?_⟩
  · exact Array.getElem_mem_toList (xs := s.data) (by simpa using hk)
  · intro h
    simp only [Bool.or_eq_true, beq_iff_eq] at h
    rcases h with h | h
    · exact h0 (by rw [h]; rfl)
    · exact h1 (by rw [h]; rfl)

set_option maxHeartbeats 400000 in
theorem areCoins_any (s : ByteArray) (w : World) (hs : s.size ≤ maxLen) :
    Calls Tryz.prog 56 #[.string s] w fun e w' => e = .returned (.bool (areCoins s.data.toList)) ∧ w' = w := by
  unfold maxLen at hs
  go_enter Tryz.func56, Tryz.ntmps56
  go_wp2
  go_loop [3] (fun i => ∃ k : Nat, k ≤ s.size ∧ i = .int .i64 k ∧ Hid (areCoins (s.data.toList.take k) = true)) (fun i => s.size - (intOf i).toNat)
  case atStart => exact ⟨0, Nat.zero_le _, rfl, rfl⟩
  case round =>
    obtain ⟨k, hk, rfl, Hc⟩ := hrel
    by_cases hlt : k < s.size
    · have HS := hid (take_snoc s k hlt)
      by_cases h0 : (s[k].toNat : Int) = 48
      · have h0' : ((s[k].toNat : Int) != 48) = false := by simp [h0]
        go_wp2
        go_round
        case rel => exact ⟨k + 1, by omega, by go_num, by rw [HS.out]; exact areCoins_snoc Hc.out (.inl h0)⟩
        case measure => simp [intOf]; omega
      · have h0' : ((s[k].toNat : Int) != 48) = true := by simp [h0]
        by_cases h1 : (s[k].toNat : Int) = 49
        · have h1' : ((s[k].toNat : Int) != 49) = false := by simp [h1]
          go_wp2
          go_round
          case rel => exact ⟨k + 1, by omega, by go_num, by rw [HS.out]; exact areCoins_snoc Hc.out (.inr h1)⟩
          case measure => simp [intOf]; omega
        · have h1' : ((s[k].toNat : Int) != 49) = true := by simp [h1]
          have HF := hid (areCoins_not hlt h0 h1)
          go_wp2
          go_ret
          exact ⟨by rw [HF.out]; rfl, rfl⟩
    · have HT : Hid (areCoins s.data.toList = true) := by have := Hc.out; rw [List.take_of_length_le (by simp; omega)] at this; exact this
      go_wp2
      go_ret
      exact ⟨by rw [HT.out]; rfl, rfl⟩

set_option maxHeartbeats 400000 in
theorem tapeLeft_any (d n cap : Nat) (ao : Option Addr) (w : World) (h : w.cell? ⟨d, 1, none⟩ = some (.slice ao n cap)) :
    Calls Tryz.prog 57 #[.pointer (some ⟨d, 1, none⟩)] w fun e w' => e = .returned (.int .i64 (n : Int)) ∧ w' = w := by
  go_enter Tryz.func57, Tryz.ntmps57
  go_wp2
  go_ret
  exact ⟨rfl, rfl⟩
set_option maxHeartbeats 400000 in
theorem coins_any (d n cap : Nat) (ao : Option Addr) (w : World) (h : w.cell? ⟨d, 1, none⟩ = some (.slice ao n cap)) :
    Calls Tryz.prog 85 #[.pointer (some ⟨d, 1, none⟩)] w fun e w' => e = .returned (.slice ao n cap) ∧ w' = w := by
  go_enter Tryz.func85, Tryz.ntmps85
  go_wp2
  go_ret
  exact ⟨rfl, rfl⟩

theorem Bools.kind {w : World} {v : Value} {xs : List Bool} (h : Bools w v xs) {b : Nat} (hb : v.ownBlock = some b) : ∃ c, w.heap[b]? = some (.cells c 4 (0, 0)) := by
  rcases h.2 with ⟨e, _⟩ | ⟨g2, c2, cur, e, _, hh, _⟩
  · rw [e] at hb; simp [Value.ownBlock] at hb
  · rw [e] at hb; simp [Value.ownBlock] at hb; subst hb; exact ⟨cur, hh⟩
theorem coin_eq (c : UInt8) : (c == 49) = ((c.toNat : Int) == 49) := by
  by_cases h : c = 49
  · subst h; rfl
  · rw [show (c == 49) = false by simpa using h]
    symm
    simp only [beq_eq_false_iff_ne, ne_eq]
    intro e
    exact h ((u8_is c 49 (by omega)).1 e)
/-- From w to w' no block has turned but those of S. -/
structure Fr (S : Nat → Prop) (w w' : World) : Prop where
  os : w'.os = w.os
  tape : w'.tape = w.tape
  output : w'.output = w.output
  size : w.heap.size ≤ w'.heap.size
  block : ∀ b, b < w.heap.size → ¬ S b → w'.heap[b]? = w.heap[b]?
theorem Fr.refl (S : Nat → Prop) (w : World) : Fr S w w := ⟨rfl, rfl, rfl, Nat.le_refl _, fun _ _ _ => rfl⟩
theorem Fr.trans {S T : Nat → Prop} {a b c : World} (h : Fr S a b) (k : Fr T b c) (hT : ∀ x, x < a.heap.size → T x → S x) : Fr S a c :=
  ⟨k.os.trans h.os, k.tape.trans h.tape, k.output.trans h.output, Nat.le_trans h.size k.size, fun x hx hS => (k.block x (Nat.lt_of_lt_of_le hx h.size) (fun hT' => hS (hT x hx hT'))).trans (h.block x hx hS)⟩
theorem Fr.mono {S T : Nat → Prop} {a b : World} (h : Fr S a b) (hT : ∀ x, x < a.heap.size → S x → T x) : Fr T a b := ⟨h.os, h.tape, h.output, h.size, fun x hx hS => h.block x hx (fun e => hS (hT x hx e))⟩
theorem Fr.below {S : Nat → Prop} {w w' : World} (h : Below w.heap.size w w') : Fr S w w' := ⟨h.os, h.tape, h.output, h.size, fun b hb _ => h.block b hb⟩
theorem Fr.toBelow {S : Nat → Prop} {w w' : World} {B : Nat} (h : Fr S w w') (hB : B ≤ w.heap.size) (hS : ∀ b, S b → B ≤ b) : Below B w w' := ⟨h.os, h.tape, h.output, h.size, fun b hb => h.block b (Nat.lt_of_lt_of_le hb hB) (fun e => by have := hS b e; omega)⟩
theorem Fr.set {S : Nat → Prop} {w w' : World} (h : Fr S w w') {a : Addr} (hS : a.block < w.heap.size → S a.block) (v : Value) : Fr S w (w'.setCell a v) :=
  ⟨h.os, h.tape, h.output, by rw [setCell_size]; exact h.size, fun b hb hn => by
    rw [Below.heap_setCell _ _ _ _ (fun e => hn (by subst e; exact hS hb))]; exact h.block b hb hn⟩

theorem drop_step {cs : List Bool} {j n : Nat} (h : j < cs.length) (hn : n ≤ j) : (cs.take (j + 1)).drop n = (cs.take j).drop n ++ [cs.getD j false] := by
  rw [List.take_succ_eq_append_getElem h, List.drop_append_of_le_length (by simp; omega)]; simp [List.getD, h]
theorem drop_none {cs : List Bool} {j n : Nat} (hn : j ≤ n) : (cs.take j).drop n = [] := List.drop_eq_nil_of_le (by simp; omega)
theorem below_fr {w w' : World} {d : Nat} (h : Below w.heap.size w w') {a : Addr} (ha : a.block = d) (v : Value) : Fr (fun b => b = d) w (w'.setCell a v) := (Fr.below h).set (fun _ => ha) v

set_option maxHeartbeats 1000000 in
set_option maxRecDepth 100000 in
theorem use_any (d n : Nat) (r vt vk : Value) (cs : List Bool) (w : World) (hd : w.heap[d]? = some (.cells #[r, vt, vk] 55 (0, 0))) (ht : Bools w vt cs) (hcs : cs.length ≤ 1048576) (hn : n ≤ 1048576) :
    Calls Tryz.prog 87 #[.pointer (some ⟨d, 1, none⟩), .int .i64 (n : Int)] w fun e w' => e = .returned (.tuple #[]) ∧ ∃ vt', w'.heap[d]? = some (.cells #[r, vt', vk] 55 (0, 0)) ∧ Bools w' vt' (cs.drop n) ∧ (vt' = vt ∨ ∀ b, vt'.ownBlock = some b → w.heap.size ≤ b) ∧ Fr (fun b => b = d) w w' := by
  obtain ⟨ao, ct, rfl, hcl, hcm, hnone, hsome⟩ := ht.form
  obtain ⟨c0, c1, c2, cz⟩ := blk3 hd
  have HD := hid hd
  have HT := hid ht
  have hdz := lt_of_blk' hd
  obtain ⟨i0, hi0, hz0, hz1, hz2⟩ := info_parts Tryz.infoBool
  generalize hcn : cs.length = cn at *
  have HCN := hid hcn
  have HNO := hid hnone
  have HSO := hid hsome
  clear hcn hd ht hnone hsome
  by_cases h0 : n < 1
  · have : n = 0 := by omega
    subst this
    go_enter Tryz.func87, Tryz.ntmps87
    go_wp2
    refine bodyPost_ret (v := .tuple #[]) (by simp [results, Tryz.results87]) rfl ?_
    exact ⟨rfl, _, HD.out, by rw [List.drop_zero]; exact HT.out, .inl rfl, Fr.refl _ _⟩
  · go_enter Tryz.func87, Tryz.ntmps87
    go_wp2
    go_loopw [4, 15] (fun sv si wr => ∃ (j g c : Nat) (xs : List Bool), j ≤ cn ∧ si = .int .i64 j ∧ sv = .slice (some ⟨g, 0, none⟩) xs.length c ∧ Hid (wr.ownsRow w.heap.size 4 1 (.slice (some ⟨g, 0, none⟩) xs.length c) xs.length (xs.map Value.bool)) ∧ Hid (xs = (cs.take j).drop n) ∧ Hid (Below w.heap.size w wr) ∧ xs.length ≤ j) (fun _ si _ => cn - (intOf si).toNat)
    case atStart => exact ⟨0, w.heap.size, 0, [], Nat.zero_le _, rfl, rfl, World.ownsRow_made w #[] 0 (Nat.le_refl _) (Nat.zero_le _) (by simp), by simp [Hid], (Below.refl _ _).alloc (Nat.le_refl _) _, Nat.le_refl _⟩
    case round =>
      obtain ⟨j, g, c, xs, hj, rfl, rfl, Hown, Hxs, Hb, hxl⟩ := hrel
      by_cases hlt : j < cn
      · obtain ⟨gc, rfl⟩ : ∃ g, ao = some ⟨g, 0, none⟩ := by
          cases ao with
          | none => have := (HNO.out rfl).1; rw [this] at HCN; have := HCN.out; simp at this; omega
          | some a => obtain ⟨g, rfl, _⟩ := HSO.out a rfl; exact ⟨g, rfl⟩
        obtain ⟨gc', e1, hgc, hcc⟩ := HSO.out _ rfl
        cases e1
        have hcell : wr.cell? ⟨gc, j, none⟩ = some (.bool (cs.getD j false)) := (Hb.out.cell (by exact hgc)).trans (hcc j hlt)
        have hwz := Hb.out.size
        clear hcc
        by_cases hnj : n ≤ j
        · have HX : Hid ((cs.take (j + 1)).drop n = xs ++ [cs.getD j false]) := by unfold Hid; rw [drop_step (by rw [HCN.out]; exact hlt) hnj, Hxs.out]
          generalize cs.getD j false = co at *
          go_wp2_with (at_builtin; refine wpList_append_lies _ rfl (.tmp 23) (.tmp 25) 50 rfl w.heap.size 4 i0 (.bool false) 1 1 Tryz.underlying50 hi0 hz0 hz1 hz2 rfl (by decide) (.slice (some ⟨g, 0, none⟩) xs.length c) xs.length (xs.map Value.bool) rfl (Hown.out.alloc _) ⟨wr.heap.size, 0, none⟩ 1 1 [.bool co] rfl rfl (one_new _ _ _) (one_bool _) (by decide) (by unfold maxLen; omega) (by omega) (by simp; omega) (wr.heap.size + 1) (by simp) ?_; intro g2 cap2 w1 hown1 hgrow1 hat1 hlt1)
          go_roundw
          case rel =>
            refine ⟨j + 1, g2, cap2, xs ++ [co], by omega, by go_num, by simp, ?_, HX.out.symm, ?_, by simp; omega⟩
            · simpa [Hid] using hown1
            · refine (Hb.out.alloc hwz _).grown hgrow1 (by simp; omega) (fun k hk => ?_)
              simp [Value.ownBlock] at hk
              subst hk
              exact (Hown.out.lt g rfl).1
          case measure => simp [intOf]; omega
        · have HX : Hid (xs = (cs.take (j + 1)).drop n) := by unfold Hid; rw [drop_none (by omega), Hxs.out, drop_none (by omega)]
          go_wp2
          go_roundw
          case rel => exact ⟨j + 1, g, c, xs, by omega, by go_num, rfl, Hown, HX, Hb, by omega⟩
          case measure => simp [intOf]; omega
      · have hjn : j = cn := by omega
        subst hjn
        have hdw := (Hb.out.block d hdz).trans HD.out
        obtain ⟨e0, e1, e2, ez⟩ := blk3 hdw
        have HDW := hid hdw
        clear hdw
        go_wp2
        go_end0
        refine ⟨rfl, .slice (some ⟨g, 0, none⟩) xs.length c, ?_, ?_, .inr ?_, below_fr (a := ⟨d, 1, none⟩) Hb.out rfl _⟩
        · have := blk_set (i := 1) (.slice (some ⟨g, 0, none⟩) xs.length c) HDW.out
          simpa using this
        · have hx := Hxs.out
          rw [List.take_of_length_le (by rw [HCN.out]; exact Nat.le_refl _)] at hx
          rw [← hx]
          refine ownsRow_block (ownsRow_base Hown.out (Nat.zero_le _)) (fun b hb => ?_)
          simp [Value.ownBlock] at hb
          subst hb
          have := (Hown.out.lt g rfl).1
          exact Below.heap_setCell _ _ _ _ (by simp; omega)
        · intro b hb
          simp [Value.ownBlock] at hb
          subst hb
          exact (Hown.out.lt g rfl).1

set_option maxHeartbeats 1000000 in
set_option maxRecDepth 100000 in
theorem lay_any (d : Nat) (r vt vk : Value) (cs : List Bool) (s : ByteArray) (w : World) (hd : w.heap[d]? = some (.cells #[r, vt, vk] 55 (0, 0))) (ht : Bools w vt cs) (hcs : cs.length ≤ 1048576) (hs : s.size ≤ 1048576) :
    Calls Tryz.prog 58 #[.pointer (some ⟨d, 1, none⟩), .string s] w fun e w' => e = .returned (.tuple #[]) ∧ ∃ vt', w'.heap[d]? = some (.cells #[r, vt', vk] 55 (0, 0)) ∧ Bools w' vt' (cs ++ coinsOf s.data.toList) ∧ (∀ b, vt'.ownBlock = some b → vt.ownBlock = some b ∨ w.heap.size ≤ b) ∧ Fr (fun b => b = d ∨ vt.ownBlock = some b) w w' := by
  have HD := hid hd
  have HT := hid ht
  have hdz := lt_of_blk' hd
  obtain ⟨i0, hi0, hz0, hz1, hz2⟩ := info_parts Tryz.infoBool
  clear hd ht
  go_enter Tryz.func58, Tryz.ntmps58
  go_wp2
  go_loopw [4] (fun si wr => ∃ (j : Nat) (v : Value), j ≤ s.size ∧ si = .int .i64 j ∧ Hid (wr.heap[d]? = some (.cells #[r, v, vk] 55 (0, 0))) ∧ Hid (Bools wr v (cs ++ coinsOf (s.data.toList.take j))) ∧ Hid (∀ b, v.ownBlock = some b → vt.ownBlock = some b ∨ w.heap.size ≤ b) ∧ Hid (Fr (fun b => b = d ∨ vt.ownBlock = some b) w wr)) (fun si _ => s.size - (intOf si).toNat)
  case atStart => exact ⟨0, vt, Nat.zero_le _, rfl, HD, by simpa [Hid, coinsOf] using HT.out, fun b h => .inl h, Fr.refl _ _⟩
  case round =>
    obtain ⟨j, v, hj, rfl, Hd, Hb, Hv, Hf⟩ := hrel
    by_cases hlt : j < s.size
    · obtain ⟨c0, c1, c2, cz⟩ := blk3 Hd.out
      have hdr := lt_of_blk' Hd.out
      have HS := hid (take_snoc s j hlt)
      obtain ⟨ao, c, rfl, hcl, hcm, hno, hso⟩ := Hb.out.form
      have HB := hid Hb.out
      have hln : (cs ++ coinsOf (s.data.toList.take j)).length ≤ 2097152 := by simp [coinsOf]; omega
      have hs1 : (0 : Int) ≤ (j : Int) := by omega
      have hs2 : (j : Int) < (s.size : Int) := by omega
      generalize hxs : cs ++ coinsOf (s.data.toList.take j) = xs at *
      have HXS := hid hxs
      generalize hco : ((s[j].toNat : Int) == 49) = co at *
      have HCO := hid hco
      have HNE : Hid (Value.ownBlock (.slice ao xs.length c) ≠ some d) := by
        intro e
        obtain ⟨cc, hc⟩ := HB.out.kind e
        rw [Hd.out] at hc; cases hc
      clear hxs hno hso Hb
      go_wp2
      go_region_law ((refine step_append_lies _ (by rfl) (.tmp 15) (.tmp 20) 50 (by rfl) 0 4 i0 (.bool false) 1 1 Tryz.underlying50 hi0 hz0 hz1 hz2 rfl (by decide) (.slice ao xs.length c) xs.length (xs.map Value.bool) (by rfl) (HB.out.alloc _) ⟨wr.heap.size, 0, none⟩ 1 1 [.bool co] (by rfl) rfl (one_new _ _ _) (one_bool _) (by decide) (by unfold maxLen; omega) (by omega) (Nat.zero_le _) (wr.heap.size + 1) (by simp) ?_; intro g2 cap2 w1 hown1 hgrow1 hat1 hlt1; have hq := (hgrow1.block d (by simp; omega) (Ne.symm HNE.out)).trans ((Below.heap_alloc wr _ d hdr).trans Hd.out); obtain ⟨q0, q1, q2, qz⟩ := blk3 hq))
      all_goals
        go_wp2
        go_roundw
        case rel =>
          have hfin : cs ++ coinsOf (s.data.toList.take (j + 1)) = xs ++ [co] := by
            rw [HS.out, coinsOf, List.map_append, ← List.append_assoc]
            have := HXS.out
            rw [coinsOf] at this
            rw [this, ← HCO.out, ← coin_eq]; rfl
          refine ⟨j + 1, .slice (some ⟨g2, 0, none⟩) (xs.length + 1) cap2, by omega, by go_num, ?_, ?_, ?_, ?_⟩
          · have := blk_set (i := 1) (.slice (some ⟨g2, 0, none⟩) (xs.length + 1) cap2) hq
            simpa [Hid] using this
          · rw [hfin]
            have ho : w1.ownsRow 0 4 1 (.slice (some ⟨g2, 0, none⟩) (xs.length + 1) cap2) (xs ++ [co]).length ((xs ++ [co]).map Value.bool) := by simpa using hown1
            refine ownsRow_block ho (fun b hb => Below.heap_setCell _ _ _ _ (fun e => ?_))
            simp at e
            subst e
            rcases ho.2 with ⟨e, _⟩ | ⟨g', c', cur, e, _, hh, _⟩
            · cases e
            · rw [e] at hb
              simp [Value.ownBlock] at hb
              subst hb
              rw [hq] at hh; cases hh
          · intro b hb
            simp [Value.ownBlock] at hb
            subst hb
            rcases hat1 with h | h
            · exact Hv.out g2 h
            · have := Hf.out.size; exact .inr (by omega)
          · refine Fr.set (Hf.out.trans (T := fun b => Value.ownBlock (.slice ao xs.length c) = some b) ⟨hgrow1.os, hgrow1.tape, hgrow1.output, by have := hgrow1.size; simp at this; omega, fun b hb hn => (hgrow1.block b (by simp; omega) (fun e => hn e.symm)).trans (Below.heap_alloc wr _ b hb)⟩ (fun x hx h => ?_)) (fun _ => .inl rfl) _
            rcases Hv.out x h with h | h
            · exact .inr h
            · omega
        case measure => simp [intOf]; omega
    · have HE : Hid (s.data.toList.take j = s.data.toList) := by unfold Hid; rw [List.take_of_length_le (by simp; omega)]
      have hb := Hb.out
      rw [HE.out] at hb
      have HB := hid hb
      clear hb Hb
      go_wp2
      go_end0
      exact ⟨rfl, v, Hd.out, HB.out, Hv.out, Hf.out⟩

end Go.Proofs.YtklicjbpjigfdabGreat

/- DERIVED. The desk in memory. -/
namespace Go.Proofs.YtklicjbpjigfdabGreat
open Go.RowKit

theorem Tryz.infoHeld : (Tryz.prog.info? 121).map (fun i => (i.zero, i.size, i.bytes)) = some (some (.agg #[.int .i64 0, .slice none 0 0, .int .i64 0, .int .i64 0, .bool false, .slice none 0 0]), 6, 80) := by kernel_rfl

/-- A sketch on a desk. -/
structure Hd where
  sk : Sk
  sealed : Bool
  taken : List (Nat × Nat)
/-- A desk: its room, its coins, its sketches. -/
structure Dk where
  room : Nat
  tape : List Bool
  sks : List Hd
/-- Where a sketch's levels lie. -/
structure Ref where
  g : Nat
  cap : Nat
  vs : List Value
  tk : Value
def Ref.none : Ref := { g := 0, cap := 0, vs := [], tk := .slice Option.none 0 0 }
def Hd.none : Hd := { sk := { k := 0, lv := [], lo := 0, hi := 0 }, sealed := false, taken := [] }

/-- The cells of the reports that were taken. -/
def tkCells : List (Nat × Nat) → List Value
  | [] => []
  | p :: l => .int .i64 (p.1 : Int) :: .int .i64 (p.2 : Int) :: tkCells l

/-- The cells of one sketch on the desk. -/
def hdCell (r : Ref) (h : Hd) : List Value := [.int .i64 (h.sk.k : Int), .slice (some ⟨r.g, 0, none⟩) h.sk.lv.length r.cap, .int .i64 h.sk.lo, .int .i64 h.sk.hi, .bool h.sealed, r.tk]
def hdCells : List Ref → List Hd → List Value
  | r :: rs, h :: hs => hdCell r h ++ hdCells rs hs
  | _, _ => []

theorem hdCells_length : ∀ (rs : List Ref) (hs : List Hd), rs.length = hs.length → (hdCells rs hs).length = hs.length * 6 := by
  intro rs
  induction rs with
  | nil => intro hs h; cases hs with | nil => simp [hdCells] | cons => simp at h
  | cons r rs ih =>
    intro hs h
    cases hs with
    | nil => simp at h
    | cons x hs => simp only [hdCells, hdCell, List.length_append, List.length_cons, List.length_nil, ih hs (by simpa using h)]; omega
theorem hdCells_at : ∀ (rs : List Ref) (hs : List Hd) (i j : Nat), rs.length = hs.length → i < hs.length → j < 6 → (hdCells rs hs)[i * 6 + j]? = (hdCell (rs.getD i Ref.none) (hs.getD i Hd.none))[j]? := by
  intro rs
  induction rs with
  | nil => intro hs i j h hi; simp at h; omega
  | cons r rs ih =>
    intro hs i j h hi hj
    cases hs with
    | nil => simp at hi
    | cons x hs =>
      cases i with
      | zero =>
        simp only [hdCells, Nat.zero_mul, Nat.zero_add]
        rw [List.getElem?_append_left (by simp [hdCell]; omega)]
        rfl
      | succ i =>
        simp only [hdCells]
        rw [List.getElem?_append_right (by simp [hdCell]; omega), show (i + 1) * 6 + j - (hdCell r x).length = i * 6 + j by simp [hdCell]; omega, ih hs i j (by simpa using h) (by simpa using hi) hj]
        rfl
theorem hdCells_set : ∀ (rs : List Ref) (hs : List Hd) (i : Nat) (r : Ref) (x : Hd), rs.length = hs.length → i < hs.length → x.sealed = (hs.getD i Hd.none).sealed → r.tk = (rs.getD i Ref.none).tk →
    hdCells (rs.set i r) (hs.set i x) = ((((hdCells rs hs).set (i * 6) (.int .i64 (x.sk.k : Int))).set (i * 6 + 1) (.slice (some ⟨r.g, 0, none⟩) x.sk.lv.length r.cap)).set (i * 6 + 2) (.int .i64 x.sk.lo)).set (i * 6 + 3) (.int .i64 x.sk.hi) := by
  intro rs
  induction rs with
  | nil => intro hs i r x h hi; simp at h; omega
  | cons a rs ih =>
    intro hs i r x h hi hx hr
    cases hs with
    | nil => simp at hi
    | cons y hs =>
      cases i with
      | zero => simp at hx hr; simp [hdCells, hdCell, hx, hr]
      | succ i =>
        have := ih hs i r x (by simpa using h) (by simpa using hi) (by simpa using hx) (by simpa using hr)
        simp only [List.set_cons_succ, hdCells, this]
        simp only [hdCell, List.cons_append, List.nil_append]
        rw [show (i + 1) * 6 = i * 6 + 6 by omega]
        rfl
theorem hdCells_push : ∀ (rs : List Ref) (hs : List Hd) (r : Ref) (x : Hd), rs.length = hs.length → hdCells (rs ++ [r]) (hs ++ [x]) = hdCells rs hs ++ hdCell r x := by
  intro rs
  induction rs with
  | nil => intro hs r x h; cases hs with | nil => simp [hdCells] | cons => simp at h
  | cons a rs ih =>
    intro hs r x h
    cases hs with
    | nil => simp at h
    | cons y hs => simp [hdCells, ih hs r x (by simpa using h)]

/-- The desk D lies in block d, all of it in blocks of F. -/
structure DeskIn (F : Nat → Prop) (w : World) (d : Nat) (D : Dk) (vt vk : Value) (rs : List Ref) : Prop where
  blk : w.heap[d]? = some (.cells #[.int .i64 (D.room : Int), vt, vk] 55 (0, 0))
  fd : F d
  tp : Bools w vt D.tape
  ftp : ∀ b, vt.ownBlock = some b → F b
  row : w.ownsRow 0 121 6 vk D.sks.length (hdCells rs D.sks)
  frow : ∀ b, vk.ownBlock = some b → F b
  len : rs.length = D.sks.length
  lv : ∀ i, i < D.sks.length → LvAt F w (rs.getD i Ref.none).g (rs.getD i Ref.none).cap (rs.getD i Ref.none).vs (D.sks.getD i Hd.none).sk.lv
  flv : ∀ i, i < D.sks.length → F (rs.getD i Ref.none).g
  flt : ∀ b, F b → b < w.heap.size
  tk : ∀ i, i < D.sks.length → w.ownsRow 0 129 2 (rs.getD i Ref.none).tk (D.sks.getD i Hd.none).taken.length (tkCells (D.sks.getD i Hd.none).taken)
  ftk : ∀ i, i < D.sks.length → ∀ b, (rs.getD i Ref.none).tk.ownBlock = some b → F b
  dtk : ∀ i j b, i < D.sks.length → j < D.sks.length → (rs.getD i Ref.none).tk.ownBlock = some b → (rs.getD j Ref.none).tk.ownBlock = some b → i = j
def DeskAt (F : Nat → Prop) (w : World) (d : Nat) (D : Dk) : Prop := ∃ vt vk rs, DeskIn F w d D vt vk rs

theorem LvAt.keep {F : Nat → Prop} {w w' : World} {g cap : Nat} {vs : List Value} {L : List Lvl} (h : LvAt F w g cap vs L) (hg : F g) (hb : ∀ b, F b → w'.heap[b]? = w.heap[b]?) : LvAt F w' g cap vs L :=
  ⟨ownsRow_block h.row (fun b e => by simp [Value.ownBlock] at e; subst e; exact hb _ hg), h.len, fun j hj => (h.its j hj).block (fun b e => hb b (h.fp j hj b e)), h.fp⟩
theorem LvAt.mono {F G : Nat → Prop} {w : World} {g cap : Nat} {vs : List Value} {L : List Lvl} (h : LvAt F w g cap vs L) (hFG : ∀ b, F b → b < w.heap.size → G b) : LvAt G w g cap vs L :=
  ⟨h.row, h.len, h.its, fun j hj b e => hFG b (h.fp j hj b e) (ownsRow_lt (h.its j hj) e)⟩

/-- Whoever keeps F keeps the desk. -/
theorem DeskIn.keep {F : Nat → Prop} {w w' : World} {d : Nat} {D : Dk} {vt vk : Value} {rs : List Ref} (h : DeskIn F w d D vt vk rs) (hs : w.heap.size ≤ w'.heap.size) (hb : ∀ b, F b → w'.heap[b]? = w.heap[b]?) : DeskIn F w' d D vt vk rs :=
  ⟨(hb d h.fd).trans h.blk, h.fd, ownsRow_block h.tp (fun b e => hb b (h.ftp b e)), h.ftp, ownsRow_block h.row (fun b e => hb b (h.frow b e)), h.frow, h.len, fun i hi => (h.lv i hi).keep (h.flv i hi) hb, h.flv, fun b e => Nat.lt_of_lt_of_le (h.flt b e) hs, fun i hi => ownsRow_block (h.tk i hi) (fun b e => hb b (h.ftk i hi b e)), h.ftk, h.dtk⟩
theorem DeskAt.keep {F : Nat → Prop} {w w' : World} {d : Nat} {D : Dk} (h : DeskAt F w d D) (hs : w.heap.size ≤ w'.heap.size) (hb : ∀ b, F b → w'.heap[b]? = w.heap[b]?) : DeskAt F w' d D := by
  obtain ⟨vt, vk, rs, h⟩ := h
  exact ⟨vt, vk, rs, h.keep hs hb⟩
theorem DeskAt.below {F : Nat → Prop} {w w' : World} {d : Nat} {D : Dk} (h : DeskAt F w d D) (hb : Below w.heap.size w w') : DeskAt F w' d D := by
  obtain ⟨vt, vk, rs, h⟩ := h
  exact ⟨vt, vk, rs, h.keep hb.size (fun b e => hb.block b (h.flt b e))⟩
theorem DeskIn.below {F : Nat → Prop} {w w' : World} {d : Nat} {D : Dk} {vt vk : Value} {rs : List Ref} (h : DeskIn F w d D vt vk rs) (hb : Below w.heap.size w w') : DeskIn F w' d D vt vk rs := h.keep hb.size (fun b e => hb.block b (h.flt b e))

/-- The row of sketches: nil if there are none yet. -/
theorem DeskIn.vkForm {F : Nat → Prop} {w : World} {d : Nat} {D : Dk} {vt vk : Value} {rs : List Ref} (h : DeskIn F w d D vt vk rs) : ∃ ao c, vk = .slice ao D.sks.length c ∧ (∀ i, i < D.sks.length → ∃ g, ao = some ⟨g, 0, none⟩ ∧ g < w.heap.size ∧ ∀ j, j < 6 → ∀ u, (hdCell (rs.getD i Ref.none) (D.sks.getD i Hd.none))[j]? = some u → w.cell? ⟨g, i * 6 + j, none⟩ = some u) := by
  have h' := h.row
  rcases h.row.2 with ⟨e, hn⟩ | ⟨g, cap, cur, e, hg, hh, hnc, hcm, hcs, ht⟩
  · refine ⟨none, 0, by rw [e, hn], fun i hi => by omega⟩
  · refine ⟨some ⟨g, 0, none⟩, cap, e, fun i hi => ⟨g, rfl, ?_, fun j hj u hu => ?_⟩⟩
    · exact ownsRow_lt h' (by rw [e]; rfl)
    · rw [e] at h'
      exact ownsRow_cell h' (by rw [hdCells_at rs D.sks i j h.len hi hj]; exact hu)
theorem DeskIn.vtForm {F : Nat → Prop} {w : World} {d : Nat} {D : Dk} {vt vk : Value} {rs : List Ref} (h : DeskIn F w d D vt vk rs) : ∃ ao c, vt = .slice ao D.tape.length c := by
  obtain ⟨ao, c, e, _⟩ := h.tp.form
  exact ⟨ao, c, e⟩

end Go.Proofs.YtklicjbpjigfdabGreat

/- DERIVED. The walks of the desk that only read: has, Left, Size, Ends, Level, Ledger; and New. -/
namespace Go.Proofs.YtklicjbpjigfdabGreat
open Go.RowKit
variable {F : Nat → Prop}

/-- Is there a sketch s? -/
def hasB (s : Int) (n : Nat) : Bool := decide (0 ≤ s ∧ s < (n : Int))

set_option maxHeartbeats 400000 in
theorem has_any (d : Nat) (s : Int) (n c : Nat) (ao : Option Addr) (w : World) (h : w.cell? ⟨d, 2, none⟩ = some (.slice ao n c)) :
    Calls Tryz.prog 59 #[.pointer (some ⟨d, 0, none⟩), .int .i64 s] w fun e w' => e = .returned (.bool (hasB s n)) ∧ w' = w := by
  by_cases h0 : 0 ≤ s
  · by_cases h1 : s < (n : Int)
    · have HB : Hid (hasB s n = true) := by simp [Hid, hasB, h0, h1]
      go_enter Tryz.func59, Tryz.ntmps59
      go_wp2
      go_ret
      exact ⟨by rw [HB.out]; simp, rfl⟩
    · have HB : Hid (hasB s n = false) := by simp [Hid, hasB, h0, h1]
      go_enter Tryz.func59, Tryz.ntmps59
      go_wp2
      go_ret
      exact ⟨by rw [HB.out]; simp, rfl⟩
  · have HB : Hid (hasB s n = false) := by simp [Hid, hasB, h0]
    have h0' : decide (0 ≤ s) = false := by simpa using h0
    go_enter Tryz.func59, Tryz.ntmps59
    go_wp2
    go_ret
    exact ⟨by rw [HB.out]; rfl, rfl⟩

set_option maxHeartbeats 400000 in
theorem left_any (d n c : Nat) (ao : Option Addr) (w : World) (h : w.cell? ⟨d, 1, none⟩ = some (.slice ao n c)) :
    Calls Tryz.prog 24 #[.pointer (some ⟨d, 0, none⟩)] w fun e w' => e = .returned (.int .i64 (n : Int)) ∧ w' = w := by
  go_enter Tryz.func24, Tryz.ntmps24
  go_wp2_with (go_at_call 57; refine (tapeLeft_any _ _ _ _ _ h).mono ?_; rintro e w' ⟨rfl, rfl⟩)
  go_ret
  exact ⟨rfl, rfl⟩

theorem deskLeft (d : Nat) (D : Dk) (w : World) (h : DeskAt F w d D) :
    Calls Tryz.prog 24 #[.pointer (some ⟨d, 0, none⟩)] w fun e w' => e = .returned (.int .i64 (D.tape.length : Int)) ∧ w' = w := by
  obtain ⟨vt, vk, rs, h⟩ := h
  obtain ⟨ao, c, rfl⟩ := h.vtForm
  obtain ⟨_, c1, _, _⟩ := blk3 h.blk
  exact left_any d _ _ _ w c1

/-- The five cells of sketch i. -/
theorem DeskIn.cells5 {w : World} {d : Nat} {D : Dk} {vt vk : Value} {rs : List Ref} (h : DeskIn F w d D vt vk rs) {i : Nat} (hi : i < D.sks.length) :
    ∃ g c, vk = .slice (some ⟨g, 0, none⟩) D.sks.length c ∧ g < w.heap.size ∧ w.cell? ⟨g, i * 6, none⟩ = some (.int .i64 ((D.sks.getD i Hd.none).sk.k : Int)) ∧
      w.cell? ⟨g, i * 6 + 1, none⟩ = some (.slice (some ⟨(rs.getD i Ref.none).g, 0, none⟩) (D.sks.getD i Hd.none).sk.lv.length (rs.getD i Ref.none).cap) ∧
      w.cell? ⟨g, i * 6 + 2, none⟩ = some (.int .i64 (D.sks.getD i Hd.none).sk.lo) ∧ w.cell? ⟨g, i * 6 + 3, none⟩ = some (.int .i64 (D.sks.getD i Hd.none).sk.hi) ∧
      w.cell? ⟨g, i * 6 + 4, none⟩ = some (.bool (D.sks.getD i Hd.none).sealed) := by
  obtain ⟨ao, c, e, hc⟩ := h.vkForm
  obtain ⟨g, rfl, hg, hcc⟩ := hc i hi
  exact ⟨g, c, e, hg, hcc 0 (by omega) _ rfl, hcc 1 (by omega) _ rfl, hcc 2 (by omega) _ rfl, hcc 3 (by omega) _ rfl, hcc 4 (by omega) _ rfl⟩

set_option maxHeartbeats 400000 in
set_option maxRecDepth 100000 in
theorem deskSize_no (d : Nat) (D : Dk) (s : Int) (w : World) (h : DeskAt F w d D) (hs : hasB s D.sks.length = false) :
    Calls Tryz.prog 37 #[.pointer (some ⟨d, 0, none⟩), .int .i64 s] w fun e w' => e = .returned (.tuple #[.agg #[.int .i64 0, .int .i64 0, .int .i64 0, .int .i64 0], .int .i64 4]) ∧ Below w.heap.size w w' := by
  obtain ⟨vt, vk, rs, h⟩ := h
  obtain ⟨ao, c, rfl, _⟩ := h.vkForm
  obtain ⟨_, _, c2, _⟩ := blk3 h.blk
  have hdz := lt_of_blk' h.blk
  have c2' : (w.alloc (.cells #[.int .i64 0, .int .i64 0, .int .i64 0, .int .i64 0] 81)).cell? ⟨d, 2, none⟩ = some (.slice ao D.sks.length c) := by rw [World.cell?_alloc_lt (h := hdz)]; exact c2
  have HH := hid (has_any d s _ _ _ _ c2')
  rw [hs] at HH
  clear h
  go_enter Tryz.func37, Tryz.ntmps37
  go_wp2_with (go_at_call 59; refine HH.out.mono ?_; rintro e w' ⟨rfl, rfl⟩)
  exact bodyPost_ret (v := .tuple #[.agg #[.int .i64 0, .int .i64 0, .int .i64 0, .int .i64 0], .int .i64 4]) (by simp [results, Tryz.results37, go_sem]) rfl ⟨rfl, (Below.refl _ _).alloc (Nat.le_refl _) _⟩

theorem hasB_nat {i n : Nat} (h : i < n) : hasB (i : Int) n = true := by simp [hasB, h]
/-- What the program asks of a sketch that it tells of. -/
structure Hd.Ok (h : Hd) : Prop where
  k1 : 2 ≤ h.sk.k
  k2 : h.sk.k ≤ 64
  len1 : 1 ≤ h.sk.lv.length
  len : h.sk.lv.length ≤ 29
  cnt : wsum h.sk.lv ≤ 268435456
  tms : ∀ j, (h.sk.lv.getD j Lvl.none).times ≤ 549755813888
def Dk.Ok (D : Dk) : Prop := ∀ i, i < D.sks.length → (D.sks.getD i Hd.none).Ok

set_option maxHeartbeats 400000 in
set_option maxRecDepth 100000 in
theorem deskSize (d : Nat) (D : Dk) (i : Nat) (w : World) (h : DeskAt F w d D) (hi : i < D.sks.length) (hok : (D.sks.getD i Hd.none).Ok) :
    Calls Tryz.prog 37 #[.pointer (some ⟨d, 0, none⟩), .int .i64 (i : Int)] w fun e w' => e = .returned (.tuple #[.agg #[.int .i64 ((D.sks.getD i Hd.none).sk.k : Int), .int .i64 (wsum (D.sks.getD i Hd.none).sk.lv : Int), .int .i64 (nsum (D.sks.getD i Hd.none).sk.lv : Int), .int .i64 ((D.sks.getD i Hd.none).sk.lv.length : Int)], .int .i64 0]) ∧ Below w.heap.size w w' := by
  obtain ⟨vt, vk, rs, h⟩ := h
  have hdz := lt_of_blk' h.blk
  have hA := h.below ((Below.refl w.heap.size w).alloc (Nat.le_refl _) (.cells #[.int .i64 0, .int .i64 0, .int .i64 0, .int .i64 0] 81))
  obtain ⟨g, c, rfl, hg, q0, q1, q2, q3, q4⟩ := hA.cells5 hi
  obtain ⟨_, _, c2, _⟩ := blk3 hA.blk
  have HH := hid (has_any d (i : Int) _ _ _ _ c2)
  rw [hasB_nat hi] at HH
  have HL := hid (size_any (D.sks.getD i Hd.none).sk.k _ _ (D.sks.getD i Hd.none).sk.lo (D.sks.getD i Hd.none).sk.hi _ _ _ (hA.lv i hi) (by have := hok.len; omega) (by have := hok.cnt; omega))
  generalize (D.sks.getD i Hd.none).sk = sk at *
  generalize rs.getD i Ref.none = r at *
  generalize (D.sks.getD i Hd.none).sealed = sl at *
  have hwz : w.heap.size < (w.alloc (.cells #[.int .i64 0, .int .i64 0, .int .i64 0, .int .i64 0] 81)).heap.size := by simp
  generalize D.sks.length = n at *
  have hblk := heap_alloc_new w (.cells #[.int .i64 0, .int .i64 0, .int .i64 0, .int .i64 0] 81 (0, 0))
  have HBL := hid hblk
  clear hA h hok hblk
  go_enter Tryz.func37, Tryz.ntmps37
  go_wp2_with (first | (go_at_call 59; refine HH.out.mono ?_; rintro e w' ⟨rfl, rfl⟩) | (go_at_call 69; refine HL.out.mono ?_; rintro e w1 ⟨rfl, hb1⟩; have hk := (hb1.block _ hwz).trans HBL.out; obtain ⟨e0, e1, e2, e3, ez⟩ := blk4 hk; have HB1 := hid hb1; clear hb1 hk))
  exact bodyPost_ret (v := .tuple #[.agg #[.int .i64 (sk.k : Int), .int .i64 (wsum sk.lv : Int), .int .i64 (nsum sk.lv : Int), .int .i64 (sk.lv.length : Int)], .int .i64 0]) (by simp [results, Tryz.results37, go_sem, e0, e1, e2, e3]) rfl ⟨rfl, below_set4 (((Below.refl _ _).alloc (Nat.le_refl _) _).trans (HB1.out.mono (by simp))) (Nat.le_refl _) _ _ _ _⟩

end Go.Proofs.YtklicjbpjigfdabGreat
