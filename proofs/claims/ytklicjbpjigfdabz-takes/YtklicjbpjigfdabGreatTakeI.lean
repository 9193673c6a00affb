/- DERIVED. The walk of Take: twice, a text that is none, too many, and what comes in. -/
import Derived.Test.YtklicjbpjigfdabGreatQ14
namespace Go.Proofs.YtklicjbpjigfdabGreat
open Go.RowKit
attribute [local go_sem ↓] Go.wp_at_zero Go.wp_at_succ
variable {F : Nat → Prop}

theorem bdrewT {B : Nat} {w w' : World} (h : Below B w w') : Below B w w'.drew := ⟨h.os, h.tape, h.output, h.size, h.block⟩
theorem Tryz.infoReport : (Tryz.prog.info? 129).map (fun i => (i.zero, i.size, i.bytes)) = some (some (.agg #[.int .i64 0, .int .i64 0]), 2, 16) := by kernel_rfl

set_option maxHeartbeats 1000000 in
set_option maxRecDepth 100000 in
theorem dtake_twice (d i : Nat) (D : Dk) (a b : Int) (t : ByteArray) (w : World) (h : DeskAt F w d D) (hi : i < D.sks.length) (hs : (D.sks.getD i Hd.none).sealed = false) (ha1 : 0 ≤ a) (ha2 : a ≤ 255) (hb1 : 0 ≤ b) (hl : (D.sks.getD i Hd.none).taken.length ≤ 1099511627776) (htk : tookB (D.sks.getD i Hd.none).taken a b = true) :
    Calls Tryz.prog 35 #[.pointer (some ⟨d, 0, none⟩), .int .i64 (i : Int), .int .i64 a, .int .i64 b, .string t] w fun e w' => e = .returned (.int .i64 10) ∧ Below w.heap.size w w' := by
  have hbA : Below w.heap.size w (w.alloc (.cells #[.int .i64 a, .int .i64 b] 129)) := (Below.refl w.heap.size w).alloc (Nat.le_refl _) _
  have hD := h
  obtain ⟨vt, vk, rs, h⟩ := h
  have hdz := lt_of_blk' h.blk
  obtain ⟨g, c, ao, ct, rfl, hg, et, q0, q1, q2, q3, q4, q5, qf⟩ := h.cells6 hi
  obtain ⟨_, _, c2, _⟩ := blk3 h.blk
  have HH := hid (has_any d (i : Int) _ _ _ _ c2)
  rw [hasB_nat hi] at HH
  rw [hs] at q4
  have HTK := hid (fun (w' : World) (hb : Below w.heap.size w w') => took_any (D.sks.getD i Hd.none).sk.k (rs.getD i Ref.none).g (D.sks.getD i Hd.none).sk.lv.length (rs.getD i Ref.none).cap (D.sks.getD i Hd.none).sk.lo (D.sks.getD i Hd.none).sk.hi false (rs.getD i Ref.none).tk (D.sks.getD i Hd.none).taken a b w' ((h.below hb).tk i hi) hl)
  rw [et, htk] at HTK
  have hs1 : (0 : Int) ≤ (i : Int) := by omega
  have hs2 : (i : Int) < (D.sks.length : Int) := by omega
  have HBA := hid hbA
  generalize D.sks.getD i Hd.none = de at *
  generalize rs.getD i Ref.none = r at *
  clear h hbA htk hs et hD
  generalize D.sks.length = n at *
  go_enter Tryz.func35, Tryz.ntmps35
  go_wp2_with (go_at_call 59; refine HH.out.mono ?_; rintro e w' ⟨rfl, hw⟩; obtain rfl := hw.symm)
  go_region_with (first | (go_at_call 66; refine (HTK.out _ (bdrewT HBA.out)).mono ?_; rintro e w1 ⟨rfl, hb1'⟩; have hB1 := HBA.out.trans ((undrew hb1').mono HBA.out.size); have hnm := ((undrew hb1').block w.heap.size (by simp)).trans (heap_alloc_new w (.cells #[.int .i64 a, .int .i64 b] 129 (0, 0))); have HB1 := hid hB1; have HNM := hid hnm; clear hB1 hnm hb1'))
  all_goals
    go_wp2_with fail
    go_ret
    exact ⟨rfl, HB1.out⟩

set_option maxHeartbeats 1000000 in
set_option maxRecDepth 100000 in
theorem dtake_text (d i : Nat) (D : Dk) (a b : Int) (t : ByteArray) (w : World) (h : DeskAt F w d D) (hi : i < D.sks.length) (hs : (D.sks.getD i Hd.none).sealed = false) (ha1 : 0 ≤ a) (ha2 : a ≤ 255) (hb1 : 0 ≤ b) (hl : (D.sks.getD i Hd.none).taken.length ≤ 1099511627776) (htk : tookB (D.sks.getD i Hd.none).taken a b = false) (ht : t.size ≤ 140737488355328) (hit : isText (bytesOf t) = false) :
    Calls Tryz.prog 35 #[.pointer (some ⟨d, 0, none⟩), .int .i64 (i : Int), .int .i64 a, .int .i64 b, .string t] w fun e w' => e = .returned (.int .i64 9) ∧ Below w.heap.size w w' := by
  have hbA : Below w.heap.size w (w.alloc (.cells #[.int .i64 a, .int .i64 b] 129)) := (Below.refl w.heap.size w).alloc (Nat.le_refl _) _
  have hD := h
  obtain ⟨vt, vk, rs, h⟩ := h
  have hdz := lt_of_blk' h.blk
  obtain ⟨g, c, ao, ct, rfl, hg, et, q0, q1, q2, q3, q4, q5, qf⟩ := h.cells6 hi
  obtain ⟨_, _, c2, _⟩ := blk3 h.blk
  have HH := hid (has_any d (i : Int) _ _ _ _ c2)
  rw [hasB_nat hi] at HH
  rw [hs] at q4
  have HTK := hid (fun (w' : World) (hb : Below w.heap.size w w') => took_any (D.sks.getD i Hd.none).sk.k (rs.getD i Ref.none).g (D.sks.getD i Hd.none).sk.lv.length (rs.getD i Ref.none).cap (D.sks.getD i Hd.none).sk.lo (D.sks.getD i Hd.none).sk.hi false (rs.getD i Ref.none).tk (D.sks.getD i Hd.none).taken a b w' ((h.below hb).tk i hi) hl)
  rw [et, htk] at HTK
  have hs1 : (0 : Int) ≤ (i : Int) := by omega
  have hs2 : (i : Int) < (D.sks.length : Int) := by omega
  have HBA := hid hbA
  have HR := hid (fun (w' : World) => read_any (F := fun _ => True) t w' ht (fun _ _ => trivial))
  have HI := hid hit
  generalize D.sks.getD i Hd.none = de at *
  generalize rs.getD i Ref.none = r at *
  clear h hbA htk hs et hD hit
  generalize D.sks.length = n at *
  go_enter Tryz.func35, Tryz.ntmps35
  go_wp2_with (go_at_call 59; refine HH.out.mono ?_; rintro e w' ⟨rfl, hw⟩; obtain rfl := hw.symm)
  go_region_with (first | (go_at_call 66; refine (HTK.out _ (bdrewT HBA.out)).mono ?_; rintro e w1 ⟨rfl, hb1'⟩; have hB1 := HBA.out.trans ((undrew hb1').mono HBA.out.size); have hnm := ((undrew hb1').block w.heap.size (by simp)).trans (heap_alloc_new w (.cells #[.int .i64 a, .int .i64 b] 129 (0, 0))); have HB1 := hid hB1; have HNM := hid hnm; clear hB1 hnm hb1'))
  all_goals
    go_wp2_with fail
    refine (HR.out _).mono ?_
    rintro e w2 ⟨hb, h1, _⟩
    obtain rfl := h1 HI.out
    have HB2 := hid (HB1.out.trans (hb.mono HB1.out.size))
    clear h1 hb HR
    go_wp2_with fail
    go_ret
    exact ⟨rfl, HB2.out.alloc HB2.out.size _⟩

set_option maxHeartbeats 1000000 in
set_option maxRecDepth 100000 in
theorem dtake_room (d i : Nat) (D : Dk) (a b : Int) (t : ByteArray) (w : World) (h : DeskAt F w d D) (hi : i < D.sks.length) (hs : (D.sks.getD i Hd.none).sealed = false) (ha1 : 0 ≤ a) (ha2 : a ≤ 255) (hb1 : 0 ≤ b) (hl : (D.sks.getD i Hd.none).taken.length ≤ 1099511627776) (htk : tookB (D.sks.getD i Hd.none).taken a b = false) (ht : t.size ≤ 140737488355328) (hit : isText (bytesOf t) = true) (hroom : 64 ≤ (D.sks.getD i Hd.none).taken.length) :
    Calls Tryz.prog 35 #[.pointer (some ⟨d, 0, none⟩), .int .i64 (i : Int), .int .i64 a, .int .i64 b, .string t] w fun e w' => e = .returned (.int .i64 3) ∧ Below w.heap.size w w' := by
  have hbA : Below w.heap.size w (w.alloc (.cells #[.int .i64 a, .int .i64 b] 129)) := (Below.refl w.heap.size w).alloc (Nat.le_refl _) _
  have hD := h
  obtain ⟨vt, vk, rs, h⟩ := h
  have hdz := lt_of_blk' h.blk
  obtain ⟨g, c, ao, ct, rfl, hg, et, q0, q1, q2, q3, q4, q5, qf⟩ := h.cells6 hi
  obtain ⟨_, _, c2, _⟩ := blk3 h.blk
  have HH := hid (has_any d (i : Int) _ _ _ _ c2)
  rw [hasB_nat hi] at HH
  rw [hs] at q4
  have HTK := hid (fun (w' : World) (hb : Below w.heap.size w w') => took_any (D.sks.getD i Hd.none).sk.k (rs.getD i Ref.none).g (D.sks.getD i Hd.none).sk.lv.length (rs.getD i Ref.none).cap (D.sks.getD i Hd.none).sk.lo (D.sks.getD i Hd.none).sk.hi false (rs.getD i Ref.none).tk (D.sks.getD i Hd.none).taken a b w' ((h.below hb).tk i hi) hl)
  rw [et, htk] at HTK
  have hs1 : (0 : Int) ≤ (i : Int) := by omega
  have hs2 : (i : Int) < (D.sks.length : Int) := by omega
  have HBA := hid hbA
  have HR := hid (fun (w' : World) => read_any (F := fun _ => True) t w' ht (fun _ _ => trivial))
  have HI := hid hit
  have HIN := hid h
  generalize toldS (bytesOf t) = s at *
  generalize hde : D.sks.getD i Hd.none = de at *
  generalize hr : rs.getD i Ref.none = r at *
  clear h hbA htk hs et hD hit
  go_enter Tryz.func35, Tryz.ntmps35
  go_wp2_with (go_at_call 59; refine HH.out.mono ?_; rintro e w' ⟨rfl, hw⟩; obtain rfl := hw.symm)
  go_region_with (first | (go_at_call 66; refine (HTK.out _ (bdrewT HBA.out)).mono ?_; rintro e w1 ⟨rfl, hb1'⟩; have hB1 := HBA.out.trans ((undrew hb1').mono HBA.out.size); have hnm := ((undrew hb1').block w.heap.size (by simp)).trans (heap_alloc_new w (.cells #[.int .i64 a, .int .i64 b] 129 (0, 0))); have HB1 := hid hB1; have HNM := hid hnm; clear hB1 hnm hb1'))
  all_goals
    go_wp2_with fail
    refine (HR.out _).mono ?_
    rintro e w2 ⟨hb, _, h1⟩
    obtain ⟨g1, vs1, rfl, hg1, hL1⟩ := h1 HI.out
    have hB2 := HB1.out.trans (hb.mono HB1.out.size)
    have HB2 := hid hB2
    have p2 := (hB2.cell (p := ⟨d, 2, none⟩) hdz).trans c2
    have p5 := (hB2.cell (p := ⟨g, i * 6 + 5, none⟩) hg).trans q5
    have hd2 : d < w2.heap.size := Nat.lt_of_lt_of_le hdz hB2.size
    have hg2 : g < w2.heap.size := Nat.lt_of_lt_of_le hg hB2.size
    clear h1 hb HR hL1 hB2
    go_wp2_with fail
    go_ret
    exact ⟨rfl, HB2.out.alloc HB2.out.size _⟩

end Go.Proofs.YtklicjbpjigfdabGreat
