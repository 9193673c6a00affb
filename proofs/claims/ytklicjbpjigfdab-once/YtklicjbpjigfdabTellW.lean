/- DERIVED. The walks of a sketch's Size and Ledger. -/
import Derived.Test.YtklicjbpjigfdabMakeW
import Derived.Deep.AppendLies
namespace Go.Proofs.Ytklicjbpjigfdab
open Go.RowKit
variable {F : Nat → Prop}

set_option maxHeartbeats 400000 in
set_option maxRecDepth 100000 in
theorem size_any (k g cap : Nat) (lo hi : Int) (vs : List Value) (L : List Lvl) (w : World) (hL : LvAt F w g cap vs L) (hlen : L.length ≤ 30) (hbd : wsum L ≤ 1099511627776) :
    Calls Try.prog 74 #[skVal k g L.length cap lo hi] w fun e w' => e = .returned (.agg #[.int .i64 (k : Int), .int .i64 (wsum L : Int), .int .i64 (nsum L : Int), .int .i64 (L.length : Int)]) ∧ Below w.heap.size w w' := by
  have hnl := nsum_le L
  have H1 := hid (fun (w' : World) (h : LvAt F w' g cap vs L) => count_any k g cap lo hi vs L w' h hlen hbd)
  have H2 := hid (fun (w' : World) (h : LvAt F w' g cap vs L) => items_any k g cap lo hi vs L w' h (by omega) (by omega))
  go_enter Try.func74, Try.ntmps74
  go_wp2_with fail
  have hbW := ((Below.refl w.heap.size w).alloc (Nat.le_refl _) (.cells #[.int .i64 (k : Int), .slice (some ⟨g, 0, none⟩) L.length cap, .int .i64 lo, .int .i64 hi] 77)).alloc (by simp) (.cells #[.int .i64 0, .int .i64 0, .int .i64 0, .int .i64 0] 99)
  have hk0 : ((w.alloc (.cells #[.int .i64 (k : Int), .slice (some ⟨g, 0, none⟩) L.length cap, .int .i64 lo, .int .i64 hi] 77)).alloc (.cells #[.int .i64 0, .int .i64 0, .int .i64 0, .int .i64 0] 99)).heap[w.heap.size]? = some (skBlk k g L.length cap lo hi) := by rw [Below.heap_alloc _ _ _ (by simp)]; exact heap_alloc_new _ _
  have hk1 : ((w.alloc (.cells #[.int .i64 (k : Int), .slice (some ⟨g, 0, none⟩) L.length cap, .int .i64 lo, .int .i64 hi] 77)).alloc (.cells #[.int .i64 0, .int .i64 0, .int .i64 0, .int .i64 0] 99)).heap[w.heap.size + 1]? = some (.cells #[.int .i64 0, .int .i64 0, .int .i64 0, .int .i64 0] 99 (0, 0)) := by rw [show w.heap.size + 1 = (w.alloc (.cells #[.int .i64 (k : Int), .slice (some ⟨g, 0, none⟩) L.length cap, .int .i64 lo, .int .i64 hi] 77)).heap.size by simp]; exact heap_alloc_new _ _
  generalize hWe : (w.alloc (.cells #[.int .i64 (k : Int), .slice (some ⟨g, 0, none⟩) L.length cap, .int .i64 lo, .int .i64 hi] 77)).alloc (.cells #[.int .i64 0, .int .i64 0, .int .i64 0, .int .i64 0] 99) = W at *
  clear hWe
  refine (H1.out _ (hL.below hbW)).mono ?_
  rintro e w1 ⟨rfl, hb1⟩
  have h1 := hbW.trans (hb1.mono hbW.size)
  have hk2 := (hb1.block _ (lt_of_blk' hk0)).trans hk0
  have hk3 := (hb1.block _ (lt_of_blk' hk1)).trans hk1
  obtain ⟨c0, c1, c2, c3, cz⟩ := blk4 hk2
  have Hk2 := hid hk2
  have Hk3 := hid hk3
  clear hk0 hk1 hb1 hbW hk2 hk3
  go_wp2_with fail
  refine (H2.out _ (hL.below h1)).mono ?_
  rintro e w2 ⟨rfl, hb2⟩
  have hk4 := (hb2.block _ (lt_of_blk' Hk2.out)).trans Hk2.out
  have hk5 := (hb2.block _ (lt_of_blk' Hk3.out)).trans Hk3.out
  have HB := hid (h1.trans (hb2.mono h1.size))
  obtain ⟨d0, d1, d2, d3, dz⟩ := blk4 hk4
  obtain ⟨e0, e1, e2, e3, ez⟩ := blk4 hk5
  clear c0 c1 c2 c3 cz hk4 hk5 hb2 h1
  go_wp2_with fail
  exact bodyPost_ret (v := .agg #[.int .i64 (k : Int), .int .i64 (wsum L : Int), .int .i64 (nsum L : Int), .int .i64 (L.length : Int)]) (by simp [results, Try.results74, go_sem, e0, e1, e2, e3]) rfl ⟨rfl, below_set4 HB.out (by omega) _ _ _ _⟩

theorem set3_other {w : World} {r g : Nat} (a b c : Value) (h : g ≠ r) : (((w.setCell ⟨r, 0, none⟩ a).setCell ⟨r, 1, none⟩ b).setCell ⟨r, 2, none⟩ c).heap[g]? = w.heap[g]? := by
  rw [Below.heap_setCell _ _ _ _ h, Below.heap_setCell _ _ _ _ h, Below.heap_setCell _ _ _ _ h]
theorem below_set3 {B r : Nat} {w0 w : World} (h : Below B w0 w) (hr : B ≤ r) (a b c : Value) : Below B w0 (((w.setCell ⟨r, 0, none⟩ a).setCell ⟨r, 1, none⟩ b).setCell ⟨r, 2, none⟩ c) :=
  ((h.setCell hr a).setCell hr b).setCell hr c

set_option maxHeartbeats 1000000 in
set_option maxRecDepth 100000 in
theorem ledger_any (k g cap : Nat) (lo hi : Int) (vs : List Value) (L : List Lvl) (w : World) (hL : LvAt F w g cap vs L) (hlen : L.length ≤ 30) (hbd : ssum L ≤ 1152921504606846976) :
    Calls Try.prog 94 #[skVal k g L.length cap lo hi] w fun e w' => ∃ gt ct, e = .returned (.agg #[.slice (some ⟨gt, 0, none⟩) L.length ct, .int .i64 (esum L : Int), .int .i64 (ssum L : Int)]) ∧ w.heap.size ≤ gt ∧ w'.ownsRow 0 3 1 (.slice (some ⟨gt, 0, none⟩) L.length ct) L.length (ints (timesOf L)) ∧ Below w.heap.size w w' := by
  obtain ⟨i0, hi0, hz0, hz1, hz2⟩ := info_parts Try.infoInt
  have hel := esum_le L
  obtain ⟨n, hn⟩ : ∃ n, n = L.length := ⟨_, rfl⟩
  have HN : Hid (n = L.length) := hn
  rw [← hn] at hlen ⊢
  clear hn
  go_enter Try.func94, Try.ntmps94
  go_wp2_with (at_make; refine wpList_make_own _ rfl _ _ 91 rfl (w.heap.size + 1 + 1) 3 i0 (.int .i64 0) 1 Try.underlying91 hi0 hz0 hz1 _ _ _ n rfl rfl (by omega) (by rw [hz2]; omega) (by unfold maxLen; omega) (by simp) ?_; intro w1 hown1 hgrow1; have hk0 := grown_new2 hgrow1 (by simp); have hk1 := grown_new2' hgrow1 (by simp); obtain ⟨c0, c1, c2, c3, cz⟩ := blk4 hk0; have hw1z := hgrow1.size; simp at hw1z hown1; have hzz : w.heap.size < w1.heap.size := by { omega }; have HK0 := hid hk0; have HK1 := hid hk1; have HO1 := hid hown1; have HG1 := hid hgrow1; clear hk0 hk1 hown1 hgrow1)
  have HB1 : Hid (Below w.heap.size w w1) := (((Below.refl _ _).alloc (Nat.le_refl _) _).alloc (by simp) _).grown HG1.out (by simp; omega) (fun k h => by cases h)
  have HL1 := hid (hL.below HB1.out)
  have hgt : w.heap.size + 1 + 1 < w1.heap.size := ownsRow_lt HO1.out rfl
  generalize hbl : w1.heap.size = bl at *
  have HBL := hid hbl
  clear hbl c0 c1 c2 c3 cz
  go_loopw [4, 15] (fun sp si wr => ∃ (j c1 c2 : Nat), j ≤ n ∧ si = .int .i64 j ∧ sp = .int .i64 ((2 ^ j : Nat) : Int) ∧ Hid (c1 + 2 ^ j * esum (L.drop j) = esum L) ∧ Hid (c2 + 2 ^ j * 2 ^ j * ssum (L.drop j) = ssum L) ∧
      Hid (wr.heap[bl]? = some (.cells #[.slice (some ⟨w.heap.size + 1 + 1, 0, none⟩) j n, .int .i64 (c1 : Int), .int .i64 (c2 : Int)] 131 (0, 0))) ∧
      Hid (wr.ownsRow (w.heap.size + 1 + 1) 3 1 (.slice (some ⟨w.heap.size + 1 + 1, 0, none⟩) j n) j (ints (timesOf (L.take j)))) ∧ Hid (Below (w.heap.size + 1 + 1) w1 wr)) (fun _ si _ => n - (intOf si).toNat)
  case atStart =>
    refine ⟨0, 0, 0, Nat.zero_le _, rfl, rfl, by simp [Hid], by simp [Hid], ?_, HO1.out.alloc _, (Below.refl _ _).alloc (by rw [HBL.out]; exact hw1z) _⟩
    have := heap_alloc_new w1 (.cells #[.slice (some ⟨w.heap.size + 1 + 1, 0, none⟩) 0 n, .int .i64 0, .int .i64 0] 131 (0, 0))
    rw [HBL.out] at this
    exact this
  case round =>
    obtain ⟨j, c1, c2, hj, rfl, rfl, Hc1, Hc2, Hbl, Hown, Hbel⟩ := hrel
    obtain ⟨f0, f1, f2, fz⟩ := blk3 Hbl.out
    by_cases hlt : j < n
    · have hlt' : j < L.length := by rw [← HN.out]; exact hlt
      have hLr : LvAt F wr g cap vs L := by
        have hb : Below w.heap.size w wr := HB1.out.trans (Hbel.out.mono (by omega))
        exact hL.below hb
      obtain ⟨ao, cc, ev⟩ := hLr.itemsForm hlt'
      have g0 : wr.cell? ⟨g, j * 2, none⟩ = some (.slice ao (L.getD j Lvl.none).items.length cc) := (hLr.cell0 hlt').trans (by rw [ev])
      have g1 : wr.cell? ⟨g, j * 2 + 1, none⟩ = some (.int .i64 ((L.getD j Lvl.none).times : Int)) := hLr.cell1 hlt'
      have HS1 : Hid ((c1 + 2 ^ j * (L.getD j Lvl.none).times) + (2 ^ j * 2) * esum (L.drop (j + 1)) = esum L) := estep hlt' Hc1.out
      have HS2 : Hid ((c2 + 2 ^ j * 2 ^ j * (L.getD j Lvl.none).times) + ((2 ^ j * 2) * (2 ^ j * 2)) * ssum (L.drop (j + 1)) = ssum L) := sstep hlt' Hc2.out
      have HTI : Hid (timesOf (L.take (j + 1)) = timesOf (L.take j) ++ [((L.getD j Lvl.none).times : Int)]) := timesOf_step hlt'
      have HP : Hid (2 ^ (j + 1) = 2 ^ j * 2) := Nat.pow_succ ..
      have b2 := pow2_bd (j := j) (by omega)
      have hgw := hLr.lt
      have hgne : g < bl := by have := hL.lt; omega
      have hblw : bl < wr.heap.size := lt_of_blk' Hbl.out
      generalize (L.getD j Lvl.none).items.length = m at *
      generalize (L.getD j Lvl.none).times = tm at *
      generalize 2 ^ j = p at *
      have m1 : (c1 : Int) + (tm : Int) * (p : Int) ≤ 1152921504606846976 := by
        have := HS1.out
        rw [← Int.natCast_mul, Nat.mul_comm tm p]
        generalize p * tm = q1 at *
        omega
      have m2 : (c2 : Int) + (tm : Int) * (p : Int) * (p : Int) ≤ 1152921504606846976 := by
        have := HS2.out
        rw [← Int.natCast_mul, ← Int.natCast_mul, show tm * p * p = p * p * tm by rw [Nat.mul_assoc, Nat.mul_comm]]
        generalize p * p * tm = q2 at *
        omega
      have m3 : 0 ≤ (tm : Int) * (p : Int) := mul_nn _ _
      have m4 : 0 ≤ (tm : Int) * (p : Int) * (p : Int) := by rw [← Int.natCast_mul]; exact mul_nn _ _
      clear ev hLr
      go_wp2_with (at_builtin; refine wpList_append_fits _ rfl (.tmp 20) (.tmp 23) 91 rfl (w.heap.size + 1 + 1) 3 i0 1 Try.underlying91 hi0 hz1 (w.heap.size + 1 + 1) j n _ rfl ((Hown.out.alloc _).alloc _) ⟨wr.heap.size + 1, 0, none⟩ 1 1 [.int .i64 (tm : Int)] rfl rfl (one_new' (by simp) _ _) (one_cell _ _) (by omega) ?_; intro w3 hown3 hgrow3; have k0 := grow_blk2 Hbl.out hgrow3 (by omega); obtain ⟨p0, p1, p2, pz⟩ := blk3 k0; have k1 := grown_new2 hgrow3 (by simp; omega); obtain ⟨q0, q1, qz⟩ := blk2 k1; have HK2 := hid k0; have HK3 := hid k1; have HO3 := hid hown3; have HG3 := hid hgrow3; clear k0 k1 hown3 hgrow3)
      go_roundw
      case rel =>
        refine ⟨j + 1, c1 + p * tm, c2 + p * p * tm, by omega, by go_num, by rw [HP.out]; go_num, by rw [HP.out]; exact HS1, by rw [HP.out]; exact HS2, ?_, ?_, ?_⟩
        · have h3 := blk_set (i := 2) (.int .i64 ((c2 : Int) + (tm : Int) * (p : Int) * (p : Int))) (blk_set (i := 1) (.int .i64 ((c1 : Int) + (tm : Int) * (p : Int))) (blk_set (i := 0) (.slice (some ⟨w.heap.size + 1 + 1, 0, none⟩) (j + 1) n) HK2.out))
          have e1 : ((c1 + p * tm : Nat) : Int) = (c1 : Int) + (tm : Int) * (p : Int) := by rw [Int.natCast_add, Int.natCast_mul, Int.mul_comm]
          have e2 : ((c2 + p * p * tm : Nat) : Int) = (c2 : Int) + (tm : Int) * (p : Int) * (p : Int) := by rw [Int.natCast_add, Int.natCast_mul, Int.natCast_mul, Int.mul_assoc, Int.mul_comm, Int.mul_comm (p : Int) (tm : Int)]
          rw [e1, e2]
          simpa [Hid] using h3
        · rw [HTI.out, ints_append]
          exact ownsRow_block HO3.out (fun b hb => by simp [Value.ownBlock] at hb; subst hb; exact set3_other _ _ _ (by omega))
        · refine below_set3 ?_ (by omega) _ _ _
          exact ((Hbel.out.alloc (by omega) _).alloc (by simp; omega) _).grown HG3.out (by simp; omega) (fun k hk => by cases hk; exact Nat.le_refl _)
      case measure => simp [intOf]; omega
    · have hjn : j = n := by omega
      subst hjn
      have HE1 : Hid (c1 = esum L) := by have := Hc1.out; rw [esum_end L j (by rw [← HN.out]; exact Nat.le_refl _)] at this; unfold Hid; omega
      have HE2 : Hid (c2 = ssum L) := by have := Hc2.out; rw [ssum_end L j (by rw [← HN.out]; exact Nat.le_refl _)] at this; unfold Hid; omega
      have HE3 : Hid (L.take j = L) := by unfold Hid; rw [HN.out]; simp
      have hr := (Hbel.out.block (w.heap.size + 1) (by omega)).trans HK1.out
      obtain ⟨r0, r1, r2, rz⟩ := blk3 hr
      have HR := hid hr
      clear hr
      go_wp2_with fail
      refine bodyPost_ret (v := .agg #[.slice (some ⟨w.heap.size + 1 + 1, 0, none⟩) j j, .int .i64 (c1 : Int), .int .i64 (c2 : Int)]) (by simp [results, Try.results94, go_sem, r0, r1, r2]) rfl ⟨w.heap.size + 1 + 1, j, ?_, by omega, ?_, ?_⟩
      · rw [HE1.out, HE2.out]
      · have ho := Hown.out
        rw [HE3.out] at ho
        exact ownsRow_block (ownsRow_base ho (Nat.zero_le _)) (fun b hb => by simp [Value.ownBlock] at hb; subst hb; exact set3_other _ _ _ (by omega))
      · exact below_set3 (HB1.out.trans (Hbel.out.mono (by omega))) (by omega) _ _ _

end Go.Proofs.Ytklicjbpjigfdab
