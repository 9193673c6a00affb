/- DERIVED. The walks of the desk that only read, more: Ends, Level, Ledger; and New. -/
import Derived.Test.YtaajcmoenemmlabDeskW
namespace Go.Proofs.Ytaajcmoenemmlab
open Go.RowKit
variable {F : Nat → Prop}

set_option maxHeartbeats 400000 in
set_option maxRecDepth 100000 in
theorem deskEnds (d : Nat) (D : Dk) (i : Nat) (w : World) (h : DeskAt F w d D) (hi : i < D.sks.length) (hok : (D.sks.getD i Hd.none).Ok) :
    Calls Try.prog 41 #[.pointer (some ⟨d, 0, none⟩), .int .i64 (i : Int)] w fun e w' => e = .returned (if wsum (D.sks.getD i Hd.none).sk.lv = 0 then .tuple #[.int .i64 0, .int .i64 0, .int .i64 8] else .tuple #[.int .i64 (D.sks.getD i Hd.none).sk.lo, .int .i64 (D.sks.getD i Hd.none).sk.hi, .int .i64 0]) ∧ Below w.heap.size w w' := by
  obtain ⟨vt, vk, rs, h⟩ := h
  have hdz := lt_of_blk' h.blk
  obtain ⟨g, c, rfl, hg, q0, q1, q2, q3, q4⟩ := h.cells5 hi
  obtain ⟨_, _, c2, _⟩ := blk3 h.blk
  have HH := hid (has_any d (i : Int) _ _ _ _ c2)
  rw [hasB_nat hi] at HH
  have HL := hid (fun (w' : World) (hb : Below w.heap.size w w') => count_any (F := F) (D.sks.getD i Hd.none).sk.k _ _ (D.sks.getD i Hd.none).sk.lo (D.sks.getD i Hd.none).sk.hi _ _ w' ((h.lv i hi).below hb) (by have := hok.len; omega) (by have := hok.cnt; omega))
  generalize (D.sks.getD i Hd.none).sk = sk at *
  generalize rs.getD i Ref.none = r at *
  generalize (D.sks.getD i Hd.none).sealed = sl at *
  generalize D.sks.length = n at *
  clear h hok
  go_enter Try.func41, Try.ntmps41
  go_wp2_with (first | (go_at_call 22; refine HH.out.mono ?_; rintro e w' ⟨rfl, hw⟩; obtain rfl := hw.symm))
  refine (HL.out _ ((Below.refl _ _).alloc (Nat.le_refl _) _)).mono ?_
  rintro e w1 ⟨rfl, hb1⟩
  have hk := below_new hb1 (by simp)
  obtain ⟨e0, e1, e2, e3, ez⟩ := blk4 hk
  have HB1 : Hid (Below w.heap.size w w1) := ((Below.refl _ _).alloc (Nat.le_refl _) _).trans (hb1.mono (by simp))
  clear hb1 hk
  by_cases h0 : wsum sk.lv = 0
  · rw [h0]
    go_wp2_with fail
    go_ret3
    exact ⟨by simp, HB1.out⟩
  · have h0' : ((wsum sk.lv : Int) == 0) = false := by simpa using h0
    go_wp2_with fail
    go_quiet (fail)
    go_wp2_with fail
    go_ret3
    exact ⟨by simp, below_drewN HB1.out _⟩

set_option maxHeartbeats 400000 in
set_option maxRecDepth 100000 in
theorem deskLedger (d : Nat) (D : Dk) (i : Nat) (w : World) (h : DeskAt F w d D) (hi : i < D.sks.length) (hok : (D.sks.getD i Hd.none).Ok) (hss : ssum (D.sks.getD i Hd.none).sk.lv ≤ 1152921504606846976) :
    Calls Try.prog 50 #[.pointer (some ⟨d, 0, none⟩), .int .i64 (i : Int)] w fun e w' => ∃ gt ct, e = .returned (.tuple #[.agg #[.slice (some ⟨gt, 0, none⟩) (D.sks.getD i Hd.none).sk.lv.length ct, .int .i64 (esum (D.sks.getD i Hd.none).sk.lv : Int), .int .i64 (ssum (D.sks.getD i Hd.none).sk.lv : Int)], .int .i64 0]) ∧ w.heap.size ≤ gt ∧ w'.ownsRow 0 3 1 (.slice (some ⟨gt, 0, none⟩) (D.sks.getD i Hd.none).sk.lv.length ct) (D.sks.getD i Hd.none).sk.lv.length (ints (timesOf (D.sks.getD i Hd.none).sk.lv)) ∧ Below w.heap.size w w' := by
  obtain ⟨vt, vk, rs, h⟩ := h
  have hdz := lt_of_blk' h.blk
  have hA := h.below ((Below.refl w.heap.size w).alloc (Nat.le_refl _) (.cells #[.slice none 0 0, .int .i64 0, .int .i64 0] 103))
  obtain ⟨g, c, rfl, hg, q0, q1, q2, q3, q4⟩ := hA.cells5 hi
  obtain ⟨_, _, c2, _⟩ := blk3 hA.blk
  have HH := hid (has_any d (i : Int) _ _ _ _ c2)
  rw [hasB_nat hi] at HH
  have HL := hid (ledger_any (D.sks.getD i Hd.none).sk.k _ _ (D.sks.getD i Hd.none).sk.lo (D.sks.getD i Hd.none).sk.hi _ _ _ (hA.lv i hi) (by have := hok.len; omega) hss)
  generalize (D.sks.getD i Hd.none).sk = sk at *
  generalize rs.getD i Ref.none = r at *
  generalize (D.sks.getD i Hd.none).sealed = sl at *
  have hwz : w.heap.size < (w.alloc (.cells #[.slice none 0 0, .int .i64 0, .int .i64 0] 103)).heap.size := by simp
  generalize D.sks.length = n at *
  have hblk := heap_alloc_new w (.cells #[.slice none 0 0, .int .i64 0, .int .i64 0] 103 (0, 0))
  have HBL := hid hblk
  clear hA h hok hblk
  go_enter Try.func50, Try.ntmps50
  go_wp2_with (first | (go_at_call 22; refine HH.out.mono ?_; rintro e w' ⟨rfl, rfl⟩) | (go_at_call 65; refine HL.out.mono ?_; rintro e w1 ⟨gt, ct, rfl, hgt, hown1, hb1⟩; have hk := (hb1.block _ hwz).trans HBL.out; obtain ⟨e0, e1, e2, ez⟩ := blk3 hk; have HB1 := hid hb1; have HO1 := hid hown1; have HK := hid hk; simp at hgt; clear hb1 hk hown1))
  refine bodyPost_ret (v := .tuple #[.agg #[.slice (some ⟨gt, 0, none⟩) sk.lv.length ct, .int .i64 (esum sk.lv : Int), .int .i64 (ssum sk.lv : Int)], .int .i64 0]) (by simp [results, Try.results50, go_sem, e0, e1, e2]) rfl ⟨gt, ct, rfl, by omega, ?_, below_set3 (((Below.refl _ _).alloc (Nat.le_refl _) _).trans (HB1.out.mono (by simp))) (Nat.le_refl _) _ _ _⟩
  exact ownsRow_block HO1.out (fun b hb => by simp [Value.ownBlock] at hb; subst hb; exact set3_other _ _ _ (by omega))

set_option maxHeartbeats 400000 in
theorem new_any (room : Nat) (w : World) (h1 : 1 ≤ room) (h2 : room ≤ 8) :
    Calls Try.prog 17 #[.int .i64 (room : Int)] w fun e w' => e = .returned (.tuple #[.pointer (some ⟨w.heap.size, 0, none⟩), .int .i64 0]) ∧ DeskAt (fun b => b = w.heap.size) w' w.heap.size ⟨room, [], []⟩ ∧ Below w.heap.size w w' := by
  go_enter Try.func17, Try.ntmps17
  go_wp2
  go_ret2
  refine ⟨rfl, ⟨.slice none 0 0, .slice none 0 0, [], heap_alloc_new _ _, rfl, World.ownsRow_nil _ _ _ _, fun b h => by simp [Value.ownBlock] at h, World.ownsRow_nil _ _ _ _, fun b h => by simp [Value.ownBlock] at h, rfl, fun i hi => by simp at hi, fun i hi => by simp at hi, fun b h => by subst h; simp⟩, (Below.refl _ _).alloc (Nat.le_refl _) _⟩

end Go.Proofs.Ytaajcmoenemmlab
