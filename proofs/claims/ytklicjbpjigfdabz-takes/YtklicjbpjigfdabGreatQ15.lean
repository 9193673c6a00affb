/- DERIVED. What holds of a sketch whatever calls were made, also of one that was read from a text. -/
import Derived.Test.YtklicjbpjigfdabGreatQ13
import Derived.Test.YtklicjbpjigfdabGreatQ14
import Derived.Test.YtklicjbpjigfdabGreatTakeJ
import Derived.Test.YtklicjbpjigfdabGreatQ9
import Derived.Test.YtklicjbpjigfdabGreatDMergeW
namespace Go.Proofs.YtklicjbpjigfdabGreat
open Go.RowKit

structure RInv (h : Hd) : Prop where
  ok : h.Ok
  set : nsum h.sk.lv ≤ capSum h.sk.k h.sk.lv.length
  tn : tsum h.sk.lv + nsum h.sk.lv ≤ wsum h.sk.lv

theorem rinv_begun (k : Nat) (h1 : 2 ≤ k) (h2 : k ≤ 64) : RInv (Hd.begun k) := by
  refine ⟨⟨h1, h2, Nat.le_refl _, by show 1 ≤ 29; omega, by show 0 + 2 * 0 ≤ _; omega, fun j => ?_⟩, Nat.zero_le _, Nat.le_refl _⟩
  show ([Lvl.none].getD j Lvl.none).times ≤ _
  match j with
  | 0 => exact Nat.zero_le _
  | j + 1 => exact Nat.zero_le _

theorem capFrom_ge2 (k t3 t2 : Nat) : ∀ f c, c ≤ capFrom k t3 t2 f c
  | 0, c => Nat.le_refl _
  | f + 1, c => by
    rw [capFrom]
    split
    · exact Nat.le_trans (Nat.le_succ c) (capFrom_ge2 k t3 t2 f (c + 1))
    · exact Nat.le_refl _
theorem capOf_two (k n : Nat) : 2 ≤ capOf k n := capFrom_ge2 _ _ _ _ _

theorem times_tn {k n : Nat} : ∀ {L : List Lvl} {h : Nat}, timesB k n h L = true → tsum L + nsum L ≤ wsum L
  | [], _, _ => Nat.le_refl _
  | l :: L, h, ht => by
    simp only [timesB, Bool.and_eq_true, decide_eq_true_eq] at ht
    have ih := times_tn ht.2
    have hc := capOf_two k (n - 1 - h)
    have h1 : l.times * 2 ^ h * 2 ≤ 2 ^ (h + 1) * wsum L := Nat.le_trans (Nat.mul_le_mul_left _ hc) ht.1
    have h2 : 2 ^ (h + 1) * l.times ≤ 2 ^ (h + 1) * wsum L := by
      rw [Nat.pow_succ] at h1 ⊢
      rw [Nat.mul_comm (2 ^ h * 2) l.times, ← Nat.mul_assoc]
      exact h1
    have h3 : l.times ≤ wsum L := Nat.le_of_mul_le_mul_left h2 (Nat.pow_pos (by omega))
    simp only [tsum, nsum, wsum]
    omega

theorem rinv_told {t : ByteArray} {b : Bool} {l : List (Nat × Nat)} (h : isText (bytesOf t) = true) : RInv ⟨toldS (bytesOf t), b, l⟩ := by
  have hs : soundB (toldS (bytesOf t)) = true := by
    unfold isText at h
    rw [Bool.and_eq_true] at h
    exact h.1
  have hok := shape_ok (b := b) hs (told_times (bytesOf_lt t))
  unfold soundB at hs
  rw [Bool.and_eq_true, Bool.and_eq_true] at hs
  have hsh := hs.1
  unfold shapeB at hsh
  rw [decide_eq_true_eq] at hsh
  exact ⟨⟨hok.k1, hok.k2, hok.len1, hok.len, hok.cnt, hok.tms⟩, hsh.2.2.2.2.2.1, times_tn hs.2.1⟩

theorem rinv_took {h : Hd} {x : Int} {wt u : Nat} {cs : List Bool} {L' : List Lvl} {lo hi : Int} {b : Bool} {l : List (Nat × Nat)} (hc : RInv h) (hw2 : wt ≤ 268435456) (hfull : wsum h.sk.lv + wt ≤ 268435456) (hs : settle h.sk.k cs 0 (addL h x wt) = some (L', u)) :
    RInv { sk := { k := h.sk.k, lv := L', lo := lo, hi := hi }, sealed := b, taken := l } ∧ wsum L' = wsum h.sk.lv + wt := by
  have hlt : wt < 2 ^ 29 := Nat.lt_of_le_of_lt hw2 (by decide)
  have e1 : wsum (addL h x wt) = wsum h.sk.lv + wt := by unfold addL; rw [withFrom_wsum hlt (Nat.zero_le _)]; simp
  have e2 : (addL h x wt).length ≤ 29 := withFrom_length hlt (Nat.zero_le _) hc.ok.len (by omega)
  have e3 : h.sk.lv.length ≤ (addL h x wt).length := withFrom_length_ge (Nat.zero_le _)
  have e4 : tsum (addL h x wt) = tsum h.sk.lv := withFrom_tsum
  have e5 : nsum (addL h x wt) ≤ nsum h.sk.lv + wt := withFrom_nw (Nat.zero_le _)
  obtain ⟨k1, k2, k3, k4, k5⟩ := settle_keeps hs (by omega) e2
  have htn := hc.tn
  have hl1 := hc.ok.len1
  refine ⟨⟨⟨hc.ok.k1, hc.ok.k2, ?_, k2, ?_, fun j => ?_⟩, k4, ?_⟩, by omega⟩
  · show 1 ≤ L'.length; omega
  · show wsum L' ≤ _; omega
  · have := tsum_at L' j
    show (L'.getD j Lvl.none).times ≤ _
    omega
  · show tsum L' + nsum L' ≤ wsum L'; omega

theorem rinv_merged {a c : Hd} {u : Nat} {cs : List Bool} {L' : List Lvl} {lo hi : Int} {b : Bool} {l : List (Nat × Nat)} (ha : RInv a) (hb : RInv c) (hfull : wsum a.sk.lv + wsum c.sk.lv ≤ 268435456) (hs : settle (mgK a c) cs 0 (mgL a c) = some (L', u)) :
    RInv { sk := { k := mgK a c, lv := L', lo := lo, hi := hi }, sealed := b, taken := l } ∧ wsum L' = wsum a.sk.lv + wsum c.sk.lv := by
  have e1 : wsum (mgL a c) = wsum a.sk.lv + wsum c.sk.lv := mergeL_wsum _ _
  have e2 : (mgL a c).length = max a.sk.lv.length c.sk.lv.length := mergeL_length _ _
  have e4 : tsum (mgL a c) = tsum a.sk.lv + tsum c.sk.lv := mergeL_tsum _ _
  have e5 : nsum (mgL a c) = nsum a.sk.lv + nsum c.sk.lv := mergeL_nsum _ _
  have la := ha.ok.len
  have lb := hb.ok.len
  have la1 := ha.ok.len1
  obtain ⟨k1, k2, k3, k4, k5⟩ := settle_keeps hs (by omega) (by omega)
  have tna := ha.tn
  have tnb := hb.tn
  have ka1 := ha.ok.k1
  have ka2 := ha.ok.k2
  have kb1 := hb.ok.k1
  have kb2 := hb.ok.k2
  have hk1 : 2 ≤ mgK a c := by unfold mgK mergeK; split <;> omega
  have hk2 : mgK a c ≤ 64 := by unfold mgK mergeK; split <;> omega
  refine ⟨⟨⟨hk1, hk2, ?_, k2, ?_, fun j => ?_⟩, k4, ?_⟩, by omega⟩
  · show 1 ≤ L'.length; omega
  · show wsum L' ≤ _; omega
  · have := tsum_at L' j
    show (L'.getD j Lvl.none).times ≤ _
    omega
  · show tsum L' + nsum L' ≤ wsum L'; omega
theorem RInv.ts {a b : Hd} (ha : RInv a) (hb : RInv b) : tsum a.sk.lv + tsum b.sk.lv ≤ 549755813888 := by
  have := ha.tn; have := hb.tn; have := ha.ok.cnt; have := hb.ok.cnt
  omega
/-- 256 coins suffice. -/
theorem add_short {h : Hd} {x : Int} {wt : Nat} {cs : List Bool} (hc : RInv h) (hn : settle h.sk.k cs 0 (addL h x wt) = Option.none) : cs.length < 256 := by
  have h1 := settle_none_bound hn
  have e1 := withFrom_nsum (x := x) (f := 29) (w := wt) (h := 0) (L := h.sk.lv) (Nat.zero_le _)
  have e2 := withFrom_length_ge (x := x) (f := 29) (w := wt) (h := 0) (L := h.sk.lv) (Nat.zero_le _)
  have e3 := capSum_mono (k := h.sk.k) e2
  have := hc.set
  unfold addL at h1
  omega
theorem merge_short {a b : Hd} {cs : List Bool} (ha : RInv a) (hb : RInv b) (hn : settle (mgK a b) cs 0 (mgL a b) = Option.none) : cs.length < 256 := by
  have h1 := settle_none_bound hn
  have h2 := merge_few ha.ok hb.ok ha.set hb.set
  omega

end Go.Proofs.YtklicjbpjigfdabGreat

/- DERIVED. A sealed sketch takes no more: Add and Merge refuse. -/
namespace Go.Proofs.YtklicjbpjigfdabGreat
open Go.RowKit
attribute [local go_sem ↓] Go.wp_at_zero Go.wp_at_succ
variable {F : Nat → Prop}

set_option maxHeartbeats 400000 in
theorem add_sealed (d i : Nat) (x wt : Int) (D : Dk) (w : World) (h : DeskAt F w d D) (hi : i < D.sks.length) (hs : (D.sks.getD i Hd.none).sealed = true) :
    Calls Tryz.prog 29 #[.pointer (some ⟨d, 0, none⟩), .int .i64 (i : Int), .int .i64 x, .int .i64 wt] w fun e w' => e = .returned (.int .i64 5) ∧ w' = w := by
  obtain ⟨vt, vk, rs, h⟩ := h
  obtain ⟨g, c, rfl, hg, q0, q1, q2, q3, q4⟩ := h.cells5 hi
  obtain ⟨_, _, c2, _⟩ := blk3 h.blk
  have HH := hid (has_any d (i : Int) _ _ _ _ c2)
  rw [hasB_nat hi] at HH
  rw [hs] at q4
  have hs1 : (0 : Int) ≤ (i : Int) := by omega
  have hs2 : (i : Int) < (D.sks.length : Int) := by omega
  clear h q0 q1 q2 q3
  generalize D.sks.length = n at *
  go_enter Tryz.func29, Tryz.ntmps29
  go_wp2_with (go_at_call 59; refine HH.out.mono ?_; rintro e w' ⟨rfl, rfl⟩)
  go_ret
  exact ⟨rfl, rfl⟩

set_option maxHeartbeats 400000 in
theorem merge_sealed (d i j : Nat) (D : Dk) (w : World) (h : DeskAt F w d D) (hi : i < D.sks.length) (hj : j < D.sks.length) (hs : (D.sks.getD i Hd.none).sealed = true) :
    Calls Tryz.prog 31 #[.pointer (some ⟨d, 0, none⟩), .int .i64 (i : Int), .int .i64 (j : Int)] w fun e w' => e = .returned (.int .i64 5) ∧ w' = w := by
  obtain ⟨vt, vk, rs, h⟩ := h
  obtain ⟨g, c, rfl, hg, q0, q1, q2, q3, q4⟩ := h.cells5 hi
  obtain ⟨_, _, c2, _⟩ := blk3 h.blk
  have HH := hid (has_any d (i : Int) _ _ _ _ c2)
  have HH2 := hid (has_any d (j : Int) _ _ _ _ c2)
  rw [hasB_nat hi] at HH
  rw [hasB_nat hj] at HH2
  rw [hs] at q4
  have hs1 : (0 : Int) ≤ (i : Int) := by omega
  have hs2 : (i : Int) < (D.sks.length : Int) := by omega
  clear h q0 q1 q2 q3
  generalize D.sks.length = n at *
  go_enter Tryz.func31, Tryz.ntmps31
  go_wp2_with fail
  refine HH.out.mono ?_
  rintro e w' ⟨rfl, hw⟩
  obtain rfl := hw.symm
  clear HH hw
  go_wp2_with fail
  refine HH2.out.mono ?_
  rintro e w' ⟨rfl, hw⟩
  obtain rfl := hw.symm
  clear HH2 hw
  go_wp2_with fail
  go_ret
  exact ⟨rfl, rfl⟩

end Go.Proofs.YtklicjbpjigfdabGreat

/- DERIVED. The errors of the desk's calls: whatever is handed in. -/
namespace Go.Proofs.YtklicjbpjigfdabGreat
open Go.RowKit
attribute [local go_sem ↓] Go.wp_at_zero Go.wp_at_succ
variable {F : Nat → Prop}

theorem new_no (room : Int) (w : World) (h : ¬ (1 ≤ room ∧ room ≤ 8)) :
    Calls Tryz.prog 9 #[.int .i64 room] w fun e w' => e = .returned (.tuple #[.pointer none, .int .i64 1]) ∧ w' = w := by
  by_cases h1 : room < 1
  · clear h
    go_enter Tryz.func9, Tryz.ntmps9
    go_wp2
    go_ret2
    exact ⟨rfl, rfl⟩
  · have h2 : 8 < room := by omega
    clear h
    go_enter Tryz.func9, Tryz.ntmps9
    go_wp2
    go_ret2
    exact ⟨rfl, rfl⟩

set_option maxHeartbeats 400000 in
theorem feed_coin (d : Nat) (s : ByteArray) (w : World) (hz : s.size ≤ 140737488355328) (hc : areCoins s.data.toList = false) :
    Calls Tryz.prog 22 #[.pointer (some ⟨d, 0, none⟩), .string s] w fun e w' => e = .returned (.int .i64 2) ∧ w' = w := by
  have hA := hid (areCoins_any s w (by unfold maxLen; omega))
  rw [hc] at hA
  go_enter Tryz.func22, Tryz.ntmps22
  go_wp2_with (first | (go_at_call 56; refine hA.out.mono ?_; rintro e w' ⟨rfl, hw⟩; obtain rfl := hw.symm))
  go_ret
  exact ⟨rfl, rfl⟩
set_option maxHeartbeats 400000 in
theorem feed_room (d : Nat) (D : Dk) (s : ByteArray) (w : World) (h : DeskAt F w d D) (hz : s.size ≤ 140737488355328) (hc : areCoins s.data.toList = true) (ht : D.tape.length ≤ 1024) (hn : 1024 < D.tape.length + s.size) :
    Calls Tryz.prog 22 #[.pointer (some ⟨d, 0, none⟩), .string s] w fun e w' => e = .returned (.int .i64 3) ∧ w' = w := by
  obtain ⟨vt, vk, rs, h⟩ := h
  obtain ⟨ao, c, rfl⟩ := h.vtForm
  obtain ⟨_, c1, _, _⟩ := blk3 h.blk
  have hA := hid (areCoins_any s w (by unfold maxLen; omega))
  rw [hc] at hA
  have HT := hid (tapeLeft_any d _ _ _ w c1)
  generalize D.tape.length = tl at *
  clear h
  go_enter Tryz.func22, Tryz.ntmps22
  go_wp2_with (first | (go_at_call 56; refine hA.out.mono ?_; rintro e w' ⟨rfl, hw⟩; obtain rfl := hw.symm) | (go_at_call 57; refine HT.out.mono ?_; rintro e w' ⟨rfl, hw⟩; obtain rfl := hw.symm))
  go_ret
  exact ⟨rfl, rfl⟩

set_option maxHeartbeats 400000 in
theorem open_arg (d : Nat) (k : Int) (w : World) (h : ¬ (2 ≤ k ∧ k ≤ 64)) :
    Calls Tryz.prog 13 #[.pointer (some ⟨d, 0, none⟩), .int .i64 k] w fun e w' => e = .returned (.tuple #[.int .i64 0, .int .i64 1]) ∧ w' = w := by
  by_cases h1 : k < 2
  · clear h
    go_enter Tryz.func13, Tryz.ntmps13
    go_wp2
    go_ret2
    exact ⟨rfl, rfl⟩
  · have h2 : 64 < k := by omega
    clear h
    go_enter Tryz.func13, Tryz.ntmps13
    go_wp2
    go_ret2
    exact ⟨rfl, rfl⟩
set_option maxHeartbeats 1000000 in
set_option maxRecDepth 100000 in
theorem open_full (d k : Nat) (D : Dk) (w : World) (h : DeskAt F w d D) (hk1 : 2 ≤ k) (hk2 : k ≤ 64) (hr : D.room ≤ D.sks.length) :
    Calls Tryz.prog 13 #[.pointer (some ⟨d, 0, none⟩), .int .i64 (k : Int)] w fun e w' => e = .returned (.tuple #[.int .i64 0, .int .i64 3]) ∧ Below w.heap.size w w' := by
  have HB := hid (fun (w' : World) => begin_any (F := fun b => F b ∨ w.heap.size ≤ b) k w')
  have HH := hid h
  clear h
  go_enter Tryz.func13, Tryz.ntmps13
  go_wp2_with fail
  refine (HB.out _).mono ?_
  rintro e w1 ⟨g1, cap1, rfl, hg1, hL1, hb1⟩
  have hal : Below w1.heap.size w1 (w1.alloc (.cells #[.int .i64 (k : Int), .slice (some ⟨g1, 0, none⟩) 1 cap1, .int .i64 0, .int .i64 0] 64)) := (Below.refl _ _).alloc (Nat.le_refl _) _
  have HBB := hid (hb1.trans (hal.mono hb1.size))
  have HD := hid (dbegin_full d g1 cap1 ⟨k, [Lvl.none], 0, 0⟩ D _ (HH.out.below HBB.out) hr)
  clear hg1 hL1 hb1 hal
  go_wp2_with fail
  refine HD.out.mono ?_
  rintro e w2 ⟨rfl, hb2⟩
  have HB2 := hid (HBB.out.trans (hb2.mono HBB.out.size))
  clear hb2
  go_wp2_with fail
  go_ret2
  exact ⟨rfl, HB2.out⟩

set_option maxHeartbeats 400000 in
theorem add_no (d : Nat) (s x wt : Int) (D : Dk) (w : World) (h : DeskAt F w d D) (hs : hasB s D.sks.length = false) :
    Calls Tryz.prog 29 #[.pointer (some ⟨d, 0, none⟩), .int .i64 s, .int .i64 x, .int .i64 wt] w fun e w' => e = .returned (.int .i64 4) ∧ w' = w := by
  obtain ⟨vt, vk, rs, h⟩ := h
  obtain ⟨ao, c, rfl, _⟩ := h.vkForm
  obtain ⟨_, _, c2, _⟩ := blk3 h.blk
  have HH := hid (has_any d s _ _ _ _ c2)
  rw [hs] at HH
  clear h
  go_enter Tryz.func29, Tryz.ntmps29
  go_wp2_with (go_at_call 59; refine HH.out.mono ?_; rintro e w' ⟨rfl, rfl⟩)
  go_ret
  exact ⟨rfl, rfl⟩
set_option maxHeartbeats 400000 in
theorem add_arg (d i : Nat) (x wt : Int) (D : Dk) (w : World) (h : DeskAt F w d D) (hi : i < D.sks.length) (hs : (D.sks.getD i Hd.none).sealed = false) (hw : wt < 1) :
    Calls Tryz.prog 29 #[.pointer (some ⟨d, 0, none⟩), .int .i64 (i : Int), .int .i64 x, .int .i64 wt] w fun e w' => e = .returned (.int .i64 1) ∧ w' = w := by
  obtain ⟨vt, vk, rs, h⟩ := h
  obtain ⟨g, c, rfl, hg, q0, q1, q2, q3, q4⟩ := h.cells5 hi
  obtain ⟨_, _, c2, _⟩ := blk3 h.blk
  have HH := hid (has_any d (i : Int) _ _ _ _ c2)
  rw [hasB_nat hi] at HH
  rw [hs] at q4
  have hs1 : (0 : Int) ≤ (i : Int) := by omega
  have hs2 : (i : Int) < (D.sks.length : Int) := by omega
  clear h q0 q1 q2 q3
  generalize D.sks.length = n at *
  go_enter Tryz.func29, Tryz.ntmps29
  go_wp2_with (go_at_call 59; refine HH.out.mono ?_; rintro e w' ⟨rfl, rfl⟩)
  go_ret
  exact ⟨rfl, rfl⟩
set_option maxHeartbeats 1000000 in
set_option maxRecDepth 100000 in
theorem add_full (d i : Nat) (x wt : Int) (D : Dk) (w : World) (h : DeskAt F w d D) (hi : i < D.sks.length) (hok : (D.sks.getD i Hd.none).Ok) (hun : (D.sks.getD i Hd.none).sealed = false) (hw1 : 1 ≤ wt) (hf : 268435456 < (wsum (D.sks.getD i Hd.none).sk.lv : Int) + wt) :
    Calls Tryz.prog 29 #[.pointer (some ⟨d, 0, none⟩), .int .i64 (i : Int), .int .i64 x, .int .i64 wt] w fun e w' => e = .returned (.int .i64 6) ∧ Below w.heap.size w w' := by
  obtain ⟨vt, vk, rs, h⟩ := h
  have hdz := lt_of_blk' h.blk
  obtain ⟨g, c, rfl, hg, q0, q1, q2, q3, q4⟩ := h.cells5 hi
  obtain ⟨_, _, c2, _⟩ := blk3 h.blk
  have HH := hid (has_any d (i : Int) _ _ _ _ c2)
  rw [hasB_nat hi] at HH
  rw [hun] at q4
  have hcnt := hok.cnt
  have hlen := hok.len
  have hLv := hid (h.lv i hi)
  generalize D.sks.getD i Hd.none = de at *
  generalize rs.getD i Ref.none = r at *
  have hs1 : (0 : Int) ≤ (i : Int) := by omega
  have hs2 : (i : Int) < (D.sks.length : Int) := by omega
  clear h hok hun
  go_enter Tryz.func29, Tryz.ntmps29
  go_wp2_with fail
  refine HH.out.mono ?_
  rintro e w' ⟨rfl, hw⟩
  obtain rfl := hw.symm
  clear HH hw
  go_wp2_with fail
  have hbA : Below w.heap.size w (w.alloc (skBlk de.sk.k r.g de.sk.lv.length r.cap de.sk.lo de.sk.hi)) := (Below.refl w.heap.size w).alloc (Nat.le_refl _) _
  refine (count_any de.sk.k r.g r.cap de.sk.lo de.sk.hi r.vs de.sk.lv _ (hLv.out.below hbA) (by omega) (by omega)).mono ?_
  rintro e w1 ⟨rfl, hb1⟩
  have HB1 := hid (hbA.trans (hb1.mono hbA.size))
  clear hb1 hbA
  go_wp2_with fail
  go_ret
  exact ⟨rfl, HB1.out⟩

set_option maxHeartbeats 400000 in
theorem merge_no (d : Nat) (s t : Int) (D : Dk) (w : World) (h : DeskAt F w d D) (hs : hasB s D.sks.length = false) :
    Calls Tryz.prog 31 #[.pointer (some ⟨d, 0, none⟩), .int .i64 s, .int .i64 t] w fun e w' => e = .returned (.int .i64 4) ∧ w' = w := by
  obtain ⟨vt, vk, rs, h⟩ := h
  obtain ⟨ao, c, rfl, _⟩ := h.vkForm
  obtain ⟨_, _, c2, _⟩ := blk3 h.blk
  have HH := hid (has_any d s _ _ _ _ c2)
  rw [hs] at HH
  clear h
  go_enter Tryz.func31, Tryz.ntmps31
  go_wp2_with fail
  refine HH.out.mono ?_
  rintro e w' ⟨rfl, hw⟩
  obtain rfl := hw.symm
  clear HH hw
  go_wp2_with fail
  go_ret
  exact ⟨rfl, rfl⟩
set_option maxHeartbeats 400000 in
theorem merge_no2 (d : Nat) (s t : Int) (D : Dk) (w : World) (h : DeskAt F w d D) (hs : hasB s D.sks.length = true) (ht : hasB t D.sks.length = false) :
    Calls Tryz.prog 31 #[.pointer (some ⟨d, 0, none⟩), .int .i64 s, .int .i64 t] w fun e w' => e = .returned (.int .i64 4) ∧ w' = w := by
  obtain ⟨vt, vk, rs, h⟩ := h
  obtain ⟨ao, c, rfl, _⟩ := h.vkForm
  obtain ⟨_, _, c2, _⟩ := blk3 h.blk
  have HH := hid (has_any d s _ _ _ _ c2)
  have HH2 := hid (has_any d t _ _ _ _ c2)
  rw [hs] at HH
  rw [ht] at HH2
  clear h
  go_enter Tryz.func31, Tryz.ntmps31
  go_wp2_with fail
  refine HH.out.mono ?_
  rintro e w' ⟨rfl, hw⟩
  obtain rfl := hw.symm
  clear HH hw
  go_wp2_with fail
  refine HH2.out.mono ?_
  rintro e w' ⟨rfl, hw⟩
  obtain rfl := hw.symm
  clear HH2 hw
  go_wp2_with fail
  go_ret
  exact ⟨rfl, rfl⟩

end Go.Proofs.YtklicjbpjigfdabGreat

/- DERIVED. What goes on holding of the desk, whatever calls were made. -/
namespace Go.Proofs.YtklicjbpjigfdabGreat
open Go.RowKit

/-- What goes on holding of the desk. -/
structure DInv (D : Dk) : Prop where
  room1 : 1 ≤ D.room
  room2 : D.room ≤ 8
  len : D.sks.length ≤ D.room
  tape : D.tape.length ≤ 1024
  sk : ∀ i, i < D.sks.length → RInv (D.sks.getD i Hd.none)
  tk : ∀ i, i < D.sks.length → (D.sks.getD i Hd.none).taken.length ≤ 64

end Go.Proofs.YtklicjbpjigfdabGreat
