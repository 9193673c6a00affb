/- DERIVED. One step on both desks: Rank. -/
import Derived.Test.YtklicjbpjigfdabGreatQ22
import Derived.Test.YtklicjbpjigfdabGreatQ23
import Derived.Test.YtklicjbpjigfdabGreatQ24
import Derived.Test.YtklicjbpjigfdabGreatRefN
import Derived.Test.YtklicjbpjigfdabGreatQ17
import Derived.Test.YtklicjbpjigfdabGreatQ21
namespace Go.Proofs.YtklicjbpjigfdabGreat
open Go.RowKit
attribute [local go_sem ↓] Go.wp_at_zero Go.wp_at_succ

/-- What Rank answers. -/
def rankA (D : Dk) (A q : Int) : Int × Int × Int × Int := if hasB A D.sks.length then (if wsum (D.sks.getD A.toNat Hd.none).sk.lv = 0 then (0, 0, 0, 8) else (rkLow q (D.sks.getD A.toNat Hd.none).sk.lv (D.sks.getD A.toNat Hd.none).sk.lo (D.sks.getD A.toNat Hd.none).sk.hi, (usum q (D.sks.getD A.toNat Hd.none).sk.lv : Int), rkHigh q (D.sks.getD A.toNat Hd.none).sk.lv (D.sks.getD A.toNat Hd.none).sk.lo (D.sks.getD A.toNat Hd.none).sk.hi, 0)) else (0, 0, 0, 4)
theorem rankT {F : Nat → Prop} (d : Nat) (A q : Int) (D : Dk) (w : World) (h : DeskAt F w d D) (hd : LInv D) :
    Calls Tryz.prog 46 #[.pointer (some ⟨d, 0, none⟩), .int .i64 A, .int .i64 q] w fun e w' => e = .returned (.tuple #[.agg #[.int .i64 (rankA D A q).1, .int .i64 (rankA D A q).2.1, .int .i64 (rankA D A q).2.2.1], .int .i64 (rankA D A q).2.2.2]) ∧ Below w.heap.size w w' := by
  cases hs : hasB A D.sks.length with
  | false =>
    have e9 : rankA D A q = (0, 0, 0, 4) := by unfold rankA; rw [hs]; rfl
    rw [e9]
    exact deskRank_no d D A q w h hs
  | true =>
    obtain ⟨i, rfl, hi⟩ := hasB_at hs
    refine (deskRank d D i q w h hi (hd.inv.sk i hi).ok (fun j _ => ((hd.ok i hi).srt.at j).1) ((hd.ok i hi).ssum (hd.inv.sk i hi).ok)).mono (fun e w' ⟨he, hb⟩ => ⟨?_, hb⟩)
    rw [he]
    unfold rankA
    rw [hs, Int.toNat_natCast, if_pos rfl]
    split <;> rfl
theorem rrankT {G : Nat → Prop} (d : Nat) (A q : Int) (D : Dk) (w : World) (h : RAt G w d D) (hd : LInv D) :
    Calls Tryz.prog 47 #[.pointer (some ⟨d, 0, none⟩), .int .i64 A, .int .i64 q] w fun e w' => e = .returned (.tuple #[.agg #[.int .i64 (rankA D A q).1, .int .i64 (rankA D A q).2.1, .int .i64 (rankA D A q).2.2.1], .int .i64 (rankA D A q).2.2.2]) ∧ Below w.heap.size w w' := by
  cases hs : hasB A D.sks.length with
  | false =>
    have e9 : rankA D A q = (0, 0, 0, 4) := by unfold rankA; rw [hs]; rfl
    rw [e9]
    exact rrank_no d A q D w h hs
  | true =>
    obtain ⟨i, rfl, hi⟩ := hasB_at hs
    refine (rrank_any d i q D w h hd hi).mono (fun e w' ⟨he, hb⟩ => ⟨?_, hb⟩)
    rw [he]
    unfold rankA
    rw [hs, Int.toNat_natCast, if_pos rfl]
    split <;> rfl

set_option maxHeartbeats 4000000 in
set_option maxRecDepth 100000 in
theorem lrank_any (p pd pr : Nat) (a b c : Int) (s : ByteArray) (vl : Value) (D : Dk) (M : List Le) (w0 w : World) (h : LwSt w0 w p pd pr D D M) (hd : LInv D) (hx : ∀ i, i < M.length → (M.getD i Le.none).xs.length ≤ 1099511627776) :
    Calls Tryz.prog 18 #[.pointer (some ⟨p, 0, none⟩), opVal 10 a b c s vl] w fun e w' => e = .returned (.bool true) ∧ StepPost w0 p pd pr M w' := by
  obtain ⟨F, G, hT, hpw⟩ := h.tell
  have b0 : (w.alloc (opBlk 10 a b c s vl)).heap[w.heap.size]? = some (opBlk 10 a b c s vl) := heap_alloc_new w _
  have k0 : Below w.heap.size w (w.alloc (opBlk 10 a b c s vl)) := below_new_al _
  have HF := hid (fun (W : World) (hW : Below w.heap.size w W) => rankT pd a b D W (hT W hW).1 hd)
  have HR2 := hid (fun (W : World) (hW : Below w.heap.size w W) => rrankT pr a b D W (hT W hW).2.1 hd)
  have HT1 : Hid (∀ W, Below w.heap.size w W → W.cell? ⟨p, 0, none⟩ = some (.pointer (some ⟨pd, 0, none⟩)) ∧ W.cell? ⟨p, 1, none⟩ = some (.pointer (some ⟨pr, 0, none⟩)) ∧ p < W.heap.size) := fun W hW => (hT W hW).2.2
  have HNU := hid (fun (v : Int) (W : World) => lnum_any v W)
  have HPO : Hid (∀ W, Below w.heap.size w W → StepPost w0 p pd pr M W) := fun W hW => StepPost.same (h.below hW) hd hx
  obtain ⟨c0, _, hpA⟩ := HT1.out _ k0
  obtain ⟨q0, q1, q2, q3, q4, q5⟩ := blk6 b0
  have HB0 := hid b0
  have HK0 := hid k0
  have hqA := lt_of_blk' b0
  generalize (rankA D a b).1 = x1 at *
  generalize (rankA D a b).2.1 = x2 at *
  generalize (rankA D a b).2.2.1 = x3 at *
  generalize (rankA D a b).2.2.2 = x5 at *
  have hb1 : (x1 == x1) = true := by simp
  have hb2 : (x2 == x2) = true := by simp
  have hb3 : (x3 == x3) = true := by simp
  have hb5 : (x5 == x5) = true := by simp
  clear h hT hd hx b0 k0 q3 q4 q5
  go_enter Tryz.func18, Tryz.ntmps18
  go_upto_region 3 with fail
  generalize hwA : w.alloc (opBlk 10 a b c s vl) = wA at *
  clear hwA
  have hS0 : wA.drew.cell? ⟨p, 0, none⟩ = some (.pointer (some ⟨pd, 0, none⟩)) ∧ wA.drew.cell? ⟨w.heap.size, 1, none⟩ = some (.int .i64 a) ∧ wA.drew.cell? ⟨w.heap.size, 2, none⟩ = some (.int .i64 b) := ⟨c0, q1, q2⟩
  have hS1 : ∀ o : Obj, (wA.alloc o).drew.cell? ⟨p, 0, none⟩ = some (.pointer (some ⟨pd, 0, none⟩)) ∧ (wA.alloc o).drew.cell? ⟨w.heap.size, 1, none⟩ = some (.int .i64 a) ∧ (wA.alloc o).drew.cell? ⟨w.heap.size, 2, none⟩ = some (.int .i64 b) := fun o => ⟨(cell_al hpA o).trans c0, (cell_al hqA o).trans q1, (cell_al hqA o).trans q2⟩
  have HKK : Hid (∀ w3 : World, wA.heap.size ≤ w3.heap.size → (w3.cell? ⟨p, 0, none⟩ = some (.pointer (some ⟨pd, 0, none⟩)) ∧ w3.cell? ⟨w.heap.size, 1, none⟩ = some (.int .i64 a) ∧ w3.cell? ⟨w.heap.size, 2, none⟩ = some (.int .i64 b)) → (∀ o : Obj, (w3.alloc o).cell? ⟨p, 0, none⟩ = some (.pointer (some ⟨pd, 0, none⟩)) ∧ (w3.alloc o).cell? ⟨w.heap.size, 1, none⟩ = some (.int .i64 a) ∧ (w3.alloc o).cell? ⟨w.heap.size, 2, none⟩ = some (.int .i64 b)) ∧ (∀ z0 z1 z2 : Value, (((w3.setCell ⟨wA.heap.size, 0, none⟩ z0).setCell ⟨wA.heap.size, 1, none⟩ z1).setCell ⟨wA.heap.size, 2, none⟩ z2).cell? ⟨p, 0, none⟩ = some (.pointer (some ⟨pd, 0, none⟩)) ∧ (((w3.setCell ⟨wA.heap.size, 0, none⟩ z0).setCell ⟨wA.heap.size, 1, none⟩ z1).setCell ⟨wA.heap.size, 2, none⟩ z2).cell? ⟨w.heap.size, 1, none⟩ = some (.int .i64 a) ∧ (((w3.setCell ⟨wA.heap.size, 0, none⟩ z0).setCell ⟨wA.heap.size, 1, none⟩ z1).setCell ⟨wA.heap.size, 2, none⟩ z2).cell? ⟨w.heap.size, 2, none⟩ = some (.int .i64 b))) := fun w3 h3 hS =>
    ⟨fun o => ⟨(cell_al (Nat.lt_of_lt_of_le hpA h3) o).trans hS.1, (cell_al (Nat.lt_of_lt_of_le hqA h3) o).trans hS.2.1, (cell_al (Nat.lt_of_lt_of_le hqA h3) o).trans hS.2.2⟩, fun z0 z1 z2 => ⟨(cell_set3 (Nat.ne_of_lt hpA) z0 z1 z2).trans hS.1, (cell_set3 (Nat.ne_of_lt hqA) z0 z1 z2).trans hS.2.1, (cell_set3 (Nat.ne_of_lt hqA) z0 z1 z2).trans hS.2.2⟩⟩
  have HW9 : Hid (∀ W, Below wA.heap.size wA W → Calls Tryz.prog 46 #[.pointer (some ⟨pd, 0, none⟩), .int .i64 a, .int .i64 b] W fun e w3 => e = .returned (.tuple #[.agg #[.int .i64 x1, .int .i64 x2, .int .i64 x3], .int .i64 x5]) ∧ Hid (Below W.heap.size W w3 ∧ Below wA.heap.size wA w3) ∧ wA.heap.size ≤ w3.heap.size ∧ w3.cell? ⟨p, 0, none⟩ = some (.pointer (some ⟨pd, 0, none⟩)) ∧ w3.cell? ⟨w.heap.size, 1, none⟩ = some (.int .i64 a) ∧ w3.cell? ⟨w.heap.size, 2, none⟩ = some (.int .i64 b)) := fun W hW => by
    refine (HF.out W (HK0.out.trans (hW.mono HK0.out.size))).mono ?_
    rintro e w3 ⟨rfl, hb3'⟩
    have hB3 := hW.trans (hb3'.mono hW.size)
    exact ⟨rfl, ⟨hb3', hB3⟩, hB3.size, (hB3.cell (p := ⟨p, 0, none⟩) hpA).trans c0, (hB3.cell (p := ⟨w.heap.size, 1, none⟩) hqA).trans q1, (hB3.cell (p := ⟨w.heap.size, 2, none⟩) hqA).trans q2⟩
  go_cut [5, 6] from 17 (fun s1 s2 we => ∃ q, s1 = .pointer (some ⟨q, 0, none⟩) ∧ s2 = .int .i64 x5 ∧ we.heap[q]? = some (.cells #[.int .i64 x1, .int .i64 x2, .int .i64 x3] 103 (0, 0)) ∧ Below wA.heap.size wA we)
  case first =>
    go_region_held3 (fun w' => w'.cell? ⟨p, 0, none⟩ = some (.pointer (some ⟨pd, 0, none⟩)) ∧ w'.cell? ⟨w.heap.size, 1, none⟩ = some (.int .i64 a) ∧ w'.cell? ⟨w.heap.size, 2, none⟩ = some (.int .i64 b)) (first | with_reducible exact hS3 | with_reducible exact hSB _ | with_reducible exact hSA _ _ _ | with_reducible exact hS0 | with_reducible exact hS1 _ | go_keep) (first | (go_at_call 46; refine Calls.mono (HW9.out _ ?_) ?_; exact ⟨rfl, rfl, rfl, (by simp), fun b hb => (by first | exact Below.heap_alloc wA _ b hb | rfl)⟩; rintro e w3 ⟨rfl, HG3, hz3, hS3⟩; obtain ⟨hSB, hSA⟩ := HKK.out w3 hz3 hS3; try (have hzz := (HG3.out.1.block wA.heap.size (by simp)).trans (heap_alloc_new wA _); have HZZ : Hid (w3.heap[wA.heap.size]? = some (.cells #[.int .i64 0, .int .i64 0, .int .i64 0] 103 (0, 0))) := hzz; obtain ⟨z0, z1, z2, zz⟩ := blk3 hzz; have hzl := lt_of_blk' hzz; clear hzz)))
    · have HE := hid (heap_alloc_new w3 (.cells #[.int .i64 x1, .int .i64 x2, .int .i64 x3] 103 (0, 0)))
      have HE2 := hid (HG3.out.2.alloc hz3 (.cells #[.int .i64 x1, .int .i64 x2, .int .i64 x3] 103 (0, 0)))
      clear HG3 hS3 hSB hSA HKK hS0 hS1
      go_wp2_with fail
      go_meet
      exact ⟨w3.heap.size, rfl, rfl, HE.out, HE2.out⟩
    · have HE := hid (set3_blk HZZ.out (.int .i64 x1) (.int .i64 x2) (.int .i64 x3))
      have HE2 := hid (below_set3 HG3.out.2 (Nat.le_refl _) (.int .i64 x1) (.int .i64 x2) (.int .i64 x3))
      clear HG3 hS3 hSB hSA HKK hS0 hS1 HZZ z0 z1 z2 zz
      go_wp2_with fail
      go_meet
      exact ⟨wA.heap.size, rfl, rfl, HE.out, HE2.out⟩
  case rest =>
  obtain ⟨qs, rfl, rfl, hq1, hbB⟩ := hcut
  have HQ1 := hid hq1
  have HKB := hid (HK0.out.trans (hbB.mono HK0.out.size))
  have b1 := (hbB.block _ hqA).trans HB0.out
  clear hS0 hS1 HKK HW9 c0 q0 q1 q2 hpA hqA HB0 HF hbB hq1
  obtain ⟨_, c1, hpA⟩ := HT1.out _ HKB.out
  obtain ⟨q0, q1, q2, q3, q4, q5⟩ := blk6 b1
  have hqA := lt_of_blk' b1
  clear b1 q3 q4 q5 HK0
  have HK0 := HKB
  go_upto_region 4 with fail
  generalize hwB : wc = wB at *
  clear hwB
  have hS0 : wB.drew.cell? ⟨p, 1, none⟩ = some (.pointer (some ⟨pr, 0, none⟩)) ∧ wB.drew.cell? ⟨w.heap.size, 1, none⟩ = some (.int .i64 a) ∧ wB.drew.cell? ⟨w.heap.size, 2, none⟩ = some (.int .i64 b) := ⟨c1, q1, q2⟩
  have hS1 : ∀ o : Obj, (wB.alloc o).drew.cell? ⟨p, 1, none⟩ = some (.pointer (some ⟨pr, 0, none⟩)) ∧ (wB.alloc o).drew.cell? ⟨w.heap.size, 1, none⟩ = some (.int .i64 a) ∧ (wB.alloc o).drew.cell? ⟨w.heap.size, 2, none⟩ = some (.int .i64 b) := fun o => ⟨(cell_al hpA o).trans c1, (cell_al hqA o).trans q1, (cell_al hqA o).trans q2⟩
  have HKK : Hid (∀ w3 : World, wB.heap.size ≤ w3.heap.size → (w3.cell? ⟨p, 1, none⟩ = some (.pointer (some ⟨pr, 0, none⟩)) ∧ w3.cell? ⟨w.heap.size, 1, none⟩ = some (.int .i64 a) ∧ w3.cell? ⟨w.heap.size, 2, none⟩ = some (.int .i64 b)) → (∀ o : Obj, (w3.alloc o).cell? ⟨p, 1, none⟩ = some (.pointer (some ⟨pr, 0, none⟩)) ∧ (w3.alloc o).cell? ⟨w.heap.size, 1, none⟩ = some (.int .i64 a) ∧ (w3.alloc o).cell? ⟨w.heap.size, 2, none⟩ = some (.int .i64 b)) ∧ (∀ z0 z1 z2 : Value, (((w3.setCell ⟨wB.heap.size, 0, none⟩ z0).setCell ⟨wB.heap.size, 1, none⟩ z1).setCell ⟨wB.heap.size, 2, none⟩ z2).cell? ⟨p, 1, none⟩ = some (.pointer (some ⟨pr, 0, none⟩)) ∧ (((w3.setCell ⟨wB.heap.size, 0, none⟩ z0).setCell ⟨wB.heap.size, 1, none⟩ z1).setCell ⟨wB.heap.size, 2, none⟩ z2).cell? ⟨w.heap.size, 1, none⟩ = some (.int .i64 a) ∧ (((w3.setCell ⟨wB.heap.size, 0, none⟩ z0).setCell ⟨wB.heap.size, 1, none⟩ z1).setCell ⟨wB.heap.size, 2, none⟩ z2).cell? ⟨w.heap.size, 2, none⟩ = some (.int .i64 b))) := fun w3 h3 hS =>
    ⟨fun o => ⟨(cell_al (Nat.lt_of_lt_of_le hpA h3) o).trans hS.1, (cell_al (Nat.lt_of_lt_of_le hqA h3) o).trans hS.2.1, (cell_al (Nat.lt_of_lt_of_le hqA h3) o).trans hS.2.2⟩, fun z0 z1 z2 => ⟨(cell_set3 (Nat.ne_of_lt hpA) z0 z1 z2).trans hS.1, (cell_set3 (Nat.ne_of_lt hqA) z0 z1 z2).trans hS.2.1, (cell_set3 (Nat.ne_of_lt hqA) z0 z1 z2).trans hS.2.2⟩⟩
  have HW9 : Hid (∀ W, Below wB.heap.size wB W → Calls Tryz.prog 47 #[.pointer (some ⟨pr, 0, none⟩), .int .i64 a, .int .i64 b] W fun e w3 => e = .returned (.tuple #[.agg #[.int .i64 x1, .int .i64 x2, .int .i64 x3], .int .i64 x5]) ∧ Hid (Below W.heap.size W w3 ∧ Below wB.heap.size wB w3) ∧ wB.heap.size ≤ w3.heap.size ∧ w3.cell? ⟨p, 1, none⟩ = some (.pointer (some ⟨pr, 0, none⟩)) ∧ w3.cell? ⟨w.heap.size, 1, none⟩ = some (.int .i64 a) ∧ w3.cell? ⟨w.heap.size, 2, none⟩ = some (.int .i64 b)) := fun W hW => by
    refine (HR2.out W (HK0.out.trans (hW.mono HK0.out.size))).mono ?_
    rintro e w3 ⟨rfl, hb3'⟩
    have hB3 := hW.trans (hb3'.mono hW.size)
    exact ⟨rfl, ⟨hb3', hB3⟩, hB3.size, (hB3.cell (p := ⟨p, 1, none⟩) hpA).trans c1, (hB3.cell (p := ⟨w.heap.size, 1, none⟩) hqA).trans q1, (hB3.cell (p := ⟨w.heap.size, 2, none⟩) hqA).trans q2⟩
  go_cut [7, 8] from 17 (fun s1 s2 we => ∃ q, s1 = .pointer (some ⟨q, 0, none⟩) ∧ s2 = .int .i64 x5 ∧ we.heap[q]? = some (.cells #[.int .i64 x1, .int .i64 x2, .int .i64 x3] 106 (0, 0)) ∧ Below wB.heap.size wB we)
  case first =>
    go_region_held3 (fun w' => w'.cell? ⟨p, 1, none⟩ = some (.pointer (some ⟨pr, 0, none⟩)) ∧ w'.cell? ⟨w.heap.size, 1, none⟩ = some (.int .i64 a) ∧ w'.cell? ⟨w.heap.size, 2, none⟩ = some (.int .i64 b)) (first | with_reducible exact hS3 | with_reducible exact hSB _ | with_reducible exact hSA _ _ _ | with_reducible exact hS0 | with_reducible exact hS1 _ | go_keep) (first | (go_at_call 47; refine Calls.mono (HW9.out _ ?_) ?_; exact ⟨rfl, rfl, rfl, (by simp), fun b hb => (by first | exact Below.heap_alloc wB _ b hb | rfl)⟩; rintro e w3 ⟨rfl, HG3, hz3, hS3⟩; obtain ⟨hSB, hSA⟩ := HKK.out w3 hz3 hS3; try (have hzz := (HG3.out.1.block wB.heap.size (by simp)).trans (heap_alloc_new wB _); have HZZ : Hid (w3.heap[wB.heap.size]? = some (.cells #[.int .i64 0, .int .i64 0, .int .i64 0] 106 (0, 0))) := hzz; obtain ⟨z0, z1, z2, zz⟩ := blk3 hzz; have hzl := lt_of_blk' hzz; clear hzz)))
    · have HE := hid (heap_alloc_new w3 (.cells #[.int .i64 x1, .int .i64 x2, .int .i64 x3] 106 (0, 0)))
      have HE2 := hid (HG3.out.2.alloc hz3 (.cells #[.int .i64 x1, .int .i64 x2, .int .i64 x3] 106 (0, 0)))
      clear HG3 hS3 hSB hSA HKK hS0 hS1
      go_wp2_with fail
      go_meet
      exact ⟨w3.heap.size, rfl, rfl, HE.out, HE2.out⟩
    · have HE := hid (set3_blk HZZ.out (.int .i64 x1) (.int .i64 x2) (.int .i64 x3))
      have HE2 := hid (below_set3 HG3.out.2 (Nat.le_refl _) (.int .i64 x1) (.int .i64 x2) (.int .i64 x3))
      clear HG3 hS3 hSB hSA HKK hS0 hS1 HZZ z0 z1 z2 zz
      go_wp2_with fail
      go_meet
      exact ⟨wB.heap.size, rfl, rfl, HE.out, HE2.out⟩
  case rest =>
  obtain ⟨qt, rfl, rfl, hq2, hbC⟩ := hcut
  have hq1 := (hbC.block _ (lt_of_blk' HQ1.out)).trans HQ1.out
  have HFIN := hid (HPO.out _ (HK0.out.trans (hbC.mono HK0.out.size)))
  obtain ⟨s0, s1, s2, sz⟩ := blk3 hq1
  obtain ⟨t0, t1, t2, tz⟩ := blk3 hq2
  have hz1 := lt_of_blk' hq1
  have hz2 := lt_of_blk' hq2
  clear hS0 hS1 HKK HW9 c1 q0 q1 q2 hpA hqA HQ1 HR2 hbC hq1 hq2 HPO HT1
  go_wp2_with (go_at_call 11; refine (HNU.out _ _).mono ?_; rintro e w' ⟨rfl, hw⟩; obtain rfl := hw.symm)
  go_ret
  exact ⟨rfl, HFIN.out⟩

end Go.Proofs.YtklicjbpjigfdabGreat

/- DERIVED. The walk of the document's own Split. -/
namespace Go.Proofs.YtklicjbpjigfdabGreat
open Go.RowKit
attribute [local go_sem ↓] Go.wp_at_zero Go.wp_at_succ
variable {G : Nat → Prop}

/-- What is between two cuts is the part. -/
theorem part_eq {bag : List (Int × Nat)} {L : List Lvl} {C : List Int} (hB : BagOf bag L) (hu : CutsUp C) (j : Nat) (a b : Int) (ha : 0 < j → a = C.getD (j - 1) 0) (hb : j < C.length → b = C.getD j 0) (hj : j ≤ C.length) :
    btw (btwP (decide (0 < j)) (decide (j < C.length)) a b) bag = partAt L C j := by
  unfold partAt upAt
  by_cases h0 : j = 0
  · subst h0
    rw [if_pos rfl, Nat.sub_zero]
    by_cases h1 : 0 < C.length
    · rw [if_pos h1, decide_eq_true h1, hb h1]
      exact btw_low bag a _ hB
    · rw [if_neg h1, decide_eq_false h1]
      show btw (btwP false false a b) bag = _
      rw [btw_full]; exact hB.wsum
  · rw [if_neg h0, if_pos (show j - 1 < C.length by omega), decide_eq_true (show 0 < j by omega), ha (by omega)]
    by_cases h1 : j < C.length
    · rw [if_pos h1, decide_eq_true h1, hb h1]
      have := hu (j - 1) (by omega)
      rw [show j - 1 + 1 = j by omega] at this
      exact btw_mid hB (by omega)
    · rw [if_neg h1, decide_eq_false h1]
      exact btw_high hB

set_option maxHeartbeats 400000 in
theorem rsplit_no (d n cap : Nat) (ao : Option Addr) (A : Int) (D : Dk) (w : World) (h : RAt G w d D) (hs : hasB A D.sks.length = false) :
    Calls Tryz.prog 79 #[.pointer (some ⟨d, 0, none⟩), .int .i64 A, .slice ao n cap] w fun e w' => e = .returned (.tuple #[.slice none 0 0, .int .i64 4]) ∧ w' = w := by
  obtain ⟨s, va, rs, h⟩ := h
  have HH := hid (rhas d A D s va rs _ h)
  rw [hs] at HH
  clear h
  go_enter Tryz.func79, Tryz.ntmps79
  go_wp2_with (go_at_call 63; refine HH.out.mono ?_; rintro e w' ⟨rfl, hw⟩; obtain rfl := hw.symm)
  go_ret2
  exact ⟨rfl, rfl⟩

set_option maxHeartbeats 1000000 in
theorem rsplit_bad (d i n cap : Nat) (ao : Option Addr) (c : Int) (D : Dk) (w : World) (h : RAt G w d D) (hi : i < D.sks.length) (hc : (wsum (D.sks.getD i Hd.none).sk.lv = 0 ∧ c = 8) ∨ (wsum (D.sks.getD i Hd.none).sk.lv ≠ 0 ∧ 16 < n ∧ c = 1)) :
    Calls Tryz.prog 79 #[.pointer (some ⟨d, 0, none⟩), .int .i64 (i : Int), .slice ao n cap] w fun e w' => e = .returned (.tuple #[.slice none 0 0, .int .i64 c]) ∧ w' = w := by
  obtain ⟨s, va, rs, h⟩ := h
  have HH := hid (rhas d (i : Int) D s va rs _ h)
  rw [hasB_nat hi] at HH
  obtain ⟨g, c', rfl, hg, q0, q1, q2, q3, q4, q5, q6, qz⟩ := h.cells7 hi
  obtain ⟨c0, c1, c2, cz⟩ := blk3 h.blk
  have hdz := lt_of_blk' h.blk
  have hk := h.sk i hi
  obtain ⟨bo, bl, bc, tO, tl, tc, ko, kl, kc, e1, e2, e3, e4, e5⟩ := hk.forms
  rw [e1] at q1
  have hem := bag_empty hk.bof
  rw [← e4] at hem
  have hs2 : (i : Int) < (D.sks.length : Int) := by omega
  generalize D.sks.length = m at *
  clear h q0 q2 q3 q4 q5 q6 hk e1 e2 e3 e4 e5
  rcases hc with ⟨hw, rfl⟩ | ⟨hw, hn, rfl⟩
  · have hb' : ((bl : Int) == 0) = true := by simp [hem.2 hw]
    go_enter Tryz.func79, Tryz.ntmps79
    go_wp2_with (go_at_call 63; refine HH.out.mono ?_; rintro e w' ⟨rfl, hw⟩; obtain rfl := hw.symm)
    go_ret2
    exact ⟨rfl, rfl⟩
  · have hb' : ((bl : Int) == 0) = false := by
      have : bl ≠ 0 := fun e => hw (hem.1 e)
      simp [this]
    have hn' : decide ((16 : Int) < (n : Int)) = true := decide_eq_true (by omega)
    go_enter Tryz.func79, Tryz.ntmps79
    go_wp2_with (go_at_call 63; refine HH.out.mono ?_; rintro e w' ⟨rfl, hw⟩; obtain rfl := hw.symm)
    go_ret2
    exact ⟨rfl, rfl⟩

/-- As far as Split has come. -/
structure SpSt (q : Nat) (w wr : World) (bx : Obj) (v : Value) (xs : List Int) : Prop where
  own : wr.ownsRow w.heap.size 3 1 v xs.length (ints xs)
  bel : Below w.heap.size w wr
  box : wr.heap[q]? = some bx
theorem SpSt.later {q : Nat} {w wr w' : World} {bx : Obj} {v : Value} {xs : List Int} (h : SpSt q w wr bx v xs) (hb : Below wr.heap.size wr w') : SpSt q w w' bx v xs :=
  ⟨ownsRow_below h.own hb (fun _ e => ownsRow_lt h.own e), h.bel.trans (hb.mono h.bel.size), (hb.block _ (lt_of_blk' h.box)).trans h.box⟩
theorem SpSt.app {q : Nat} {w wr w1 : World} {c : Array Value} {v v' : Value} {xs xs' : List Int} {o : Obj} (h : SpSt q w wr (.cells c 71 (0, 0)) v xs) (hown : w1.ownsRow w.heap.size 3 1 v' xs'.length (ints xs')) (hg : (wr.alloc o).grownBy w1 v.ownBlock) : SpSt q w w1 (.cells c 71 (0, 0)) v' xs' := by
  have h1 := h.later (below_new_al o)
  exact ⟨hown, h1.bel.grown hg h1.bel.size (fun k e => (h.own.lt _ e).1), grow_keep h1.own hg h1.box (by decide)⟩
theorem SpSt.ownAl {q : Nat} {w wr : World} {bx : Obj} {v : Value} {xs : List Int} {m : Nat} (h : SpSt q w wr bx v xs) (o : Obj) (hm : xs.length = m) : (wr.alloc o).ownsRow w.heap.size 3 1 v m (ints xs) := by
  subst hm; exact (h.later (below_new_al o)).own

/-- What Split answers where there is something to tell. -/
def SpPost (L : List Lvl) (C : List Int) (w : World) (e : Ending) (w' : World) : Prop := (¬ CutsUp C ∧ e = .returned (.tuple #[.slice none 0 0, .int .i64 1])) ∨ (CutsUp C ∧ ∃ bo bc, e = .returned (.tuple #[.slice bo (C.length + 1) bc, .int .i64 0]) ∧ w'.ownsRow w.heap.size 3 1 (.slice bo (C.length + 1) bc) (C.length + 1) (ints (partsOf L C)))

set_option maxHeartbeats 6000000 in
set_option maxRecDepth 100000 in
theorem rsplit_any (d i n cap : Nat) (ao : Option Addr) (C : List Int) (D : Dk) (w : World) (h : RAt G w d D) (hd : LInv D) (hi : i < D.sks.length) (hw : wsum (D.sks.getD i Hd.none).sk.lv ≠ 0) (hC : IntsG w ao n C) (hn : n ≤ 16) :
    Calls Tryz.prog 79 #[.pointer (some ⟨d, 0, none⟩), .int .i64 (i : Int), .slice ao n cap] w fun e w' => Below w.heap.size w w' ∧ SpPost (D.sks.getD i Hd.none).sk.lv C w e w' := by
  obtain ⟨s, va, rs, h⟩ := h
  obtain ⟨i0, hi0, hz0, hz1, hz2⟩ := info_parts Tryz.infoInt
  have HH := hid (rhas d (i : Int) D s va rs _ h)
  rw [hasB_nat hi] at HH
  obtain ⟨g, c', rfl, hg, q0, q1, q2, q3, q4, q5, q6, qz⟩ := h.cells7 hi
  obtain ⟨c0, c1, c2, cz⟩ := blk3 h.blk
  have hdz := lt_of_blk' h.blk
  obtain ⟨hbl, hlow⟩ := h.bagLen hd hi
  have hk := h.sk i hi
  obtain ⟨bo, bl, bc, tO, tl, tc, ko, kl, kc, e1, e2, e3, e4, e5⟩ := hk.forms
  have hem := bag_empty hk.bof
  rw [← e4] at hem
  have HBT := hid (fun (so mo : Bool) (a b : Int) (w' : World) (hb : Below w.heap.size w w') => rbetween_any (D.sks.getD i Hd.none).sk.k (.slice bo bl bc) (.slice tO tl tc) (.slice ko kl kc) (rs.getD i RRef.none).lo (rs.getD i RRef.none).hi a b (D.sks.getD i Hd.none).sealed so mo (rs.getD i RRef.none).bag w' (by rw [← e1]; exact hk.bag.below hb) hbl hlow)
  have HPE := hid (fun (hu : CutsUp C) (j : Nat) (a b : Int) => part_eq (bag := (rs.getD i RRef.none).bag) (L := (D.sks.getD i Hd.none).sk.lv) hk.bof hu j a b)
  have HCL : Hid (C.length = n) := hC.1
  have HC := hid hC
  have HP1 : Hid (∀ w', ¬ CutsUp C → SpPost (D.sks.getD i Hd.none).sk.lv C w (.returned (.tuple #[.slice none 0 0, .int .i64 1])) w') := fun w' h => .inl ⟨h, rfl⟩
  have HP2 : Hid (∀ w' bo bc, CutsUp C → w'.ownsRow w.heap.size 3 1 (.slice bo (n + 1) bc) (n + 1) (ints (partsOf (D.sks.getD i Hd.none).sk.lv C)) → SpPost (D.sks.getD i Hd.none).sk.lv C w (.returned (.tuple #[.slice bo (n + 1) bc, .int .i64 0])) w') := fun w' bo bc h h2 => by
    have e9 := hC.1
    subst e9
    exact .inr ⟨h, bo, bc, rfl, h2⟩
  have HPT : Hid (∀ j, partsTo (D.sks.getD i Hd.none).sk.lv C (j + 1) = partsTo (D.sks.getD i Hd.none).sk.lv C j ++ [(partAt (D.sks.getD i Hd.none).sk.lv C j : Int)]) := partsTo_succ _ _
  have HPA : Hid (partsTo (D.sks.getD i Hd.none).sk.lv C (n + 1) = partsOf (D.sks.getD i Hd.none).sk.lv C) := by rw [Hid, ← hC.1]; rfl
  have HPL : Hid (∀ j, (partsTo (D.sks.getD i Hd.none).sk.lv C j).length = j) := partsTo_length _ _
  have HBD : Hid (∀ p : Int → Bool, btw p (rs.getD i RRef.none).bag ≤ 268435456) := fun p => Nat.le_trans (btw_le p _) (by rw [bagW_of hk.bof]; exact (hd.inv.sk i hi).ok.cnt)
  rw [e1] at q1
  rw [e2] at q2
  rw [e3] at q6
  have hs2 : (i : Int) < (D.sks.length : Int) := by omega
  have hb' : ((bl : Int) == 0) = false := by
    have : bl ≠ 0 := fun e => hw (hem.1 e)
    simp [this]
  have hn' : decide ((16 : Int) < (n : Int)) = false := decide_eq_false (by omega)
  generalize SpPost (D.sks.getD i Hd.none).sk.lv C w = SP at *
  generalize partsTo (D.sks.getD i Hd.none).sk.lv C = PT at *
  generalize partAt (D.sks.getD i Hd.none).sk.lv C = PA at *
  generalize partsOf (D.sks.getD i Hd.none).sk.lv C = PO at *
  generalize (rs.getD i RRef.none).bag = bag at *
  generalize D.sks.length = m at *
  generalize (D.sks.getD i Hd.none).sk.k = k at *
  generalize (D.sks.getD i Hd.none).sealed = sl at *
  generalize (rs.getD i RRef.none).lo = lo at *
  generalize (rs.getD i RRef.none).hi = hh at *
  clear h hk e1 e2 e3 e4 e5 hem hC hbl hlow hw
  go_enter Tryz.func79, Tryz.ntmps79
  go_wp2_with (go_at_call 63; refine HH.out.mono ?_; rintro e w' ⟨rfl, hw⟩; obtain rfl := hw.symm)
  go_loopw [9] (fun si wr => ∃ j : Nat, j ≤ n ∧ si = .int .i64 (j : Int) ∧ Hid (∀ t, t < j → t + 1 < n → C.getD t 0 < C.getD (t + 1) 0) ∧ Hid (Below w.heap.size w wr)) (fun si _ => n - (intOf si).toNat)
  case atStart => exact ⟨0, Nat.zero_le _, rfl, fun t ht => absurd ht (Nat.not_lt_zero _), Below.refl _ _⟩
  case round =>
    obtain ⟨j, hj, rfl, Hup, Hb⟩ := hrel
    by_cases hlt : j + 1 < n
    · obtain ⟨b1, o1, rfl, z1, r1⟩ := HC.out.2 j (by omega)
      obtain ⟨b2, o2, e2, z2, r2⟩ := HC.out.2 (j + 1) hlt
      have eb : b2 = b1 := by injection e2 with e2; injection e2 with x y; exact x.symm
      have eo : o2 = o1 := by injection e2 with e2; injection e2 with x y; exact y.symm
      subst eb
      subst eo
      have r1' := (Hb.out.cell (p := ⟨b2, o2 + j, none⟩) z1).trans r1
      have r2' := (Hb.out.cell (p := ⟨b2, o2 + (j + 1), none⟩) z1).trans r2
      have z1' := Nat.lt_of_lt_of_le z1 Hb.out.size
      have hs3 : (0 : Int) ≤ (j : Int) := by omega
      have hs4 : (j : Int) < (n : Int) := by omega
      have hs5 : (0 : Int) ≤ (j : Int) + 1 := by omega
      have hs6 : (j : Int) + 1 < (n : Int) := by omega
      have hwr : IntKind.i64.wrap ((j : Int) + 1) = (j : Int) + 1 := by rw [IntKind.wrap_i64]; omega
      by_cases hcmp : C.getD j 0 < C.getD (j + 1) 0
      · have hd1 : decide (C.getD (j + 1) 0 ≤ C.getD j 0) = false := decide_eq_false (by omega)
        have HU2 : Hid (∀ t, t < j + 1 → t + 1 < n → C.getD t 0 < C.getD (t + 1) 0) := fun t ht h9 => by
          by_cases e : t = j
          · subst e; exact hcmp
          · exact Hup.out t (by omega) h9
        generalize C.getD j 0 = y1 at *
        generalize C.getD (j + 1) 0 = y2 at *
        clear r1 r2 e2
        go_wp2_with fail
        go_quiet (fail)
        go_wp2_with fail
        go_roundw
        case rel => exact ⟨j + 1, by omega, by go_num, HU2, below_drewN Hb.out _⟩
        case measure => simp [intOf]; omega
      · have hd1 : decide (C.getD (j + 1) 0 ≤ C.getD j 0) = true := decide_eq_true (by omega)
        have HNU : Hid (¬ CutsUp C) := fun h9 => hcmp (h9 j (by rw [HCL.out]; exact hlt))
        generalize C.getD j 0 = y1 at *
        generalize C.getD (j + 1) 0 = y2 at *
        clear r1 r2 e2 hcmp
        go_wp2_with fail
        go_quiet (fail)
        go_wp2_with fail
        go_ret2
        exact ⟨below_drewN Hb.out _, HP1.out _ HNU.out⟩
    · have HU : Hid (CutsUp C) := fun t ht => Hup.out t (by rw [HCL.out] at ht; omega) (by rw [HCL.out] at ht; exact ht)
      have HPE2 := hid (HPE.out HU.out)
      have q0' := (Hb.out.cell (p := ⟨g, i * 7, none⟩) hg).trans q0
      have q1' := (Hb.out.cell (p := ⟨g, i * 7 + 1, none⟩) hg).trans q1
      have q2' := (Hb.out.cell (p := ⟨g, i * 7 + 2, none⟩) hg).trans q2
      have q3' := (Hb.out.cell (p := ⟨g, i * 7 + 3, none⟩) hg).trans q3
      have q4' := (Hb.out.cell (p := ⟨g, i * 7 + 4, none⟩) hg).trans q4
      have q5' := (Hb.out.cell (p := ⟨g, i * 7 + 5, none⟩) hg).trans q5
      have q6' := (Hb.out.cell (p := ⟨g, i * 7 + 6, none⟩) hg).trans q6
      have d2' := (Hb.out.cell (p := ⟨d, 2, none⟩) hdz).trans c2
      have hgz := Nat.lt_of_lt_of_le hg Hb.out.size
      have hdz' := Nat.lt_of_lt_of_le hdz Hb.out.size
      have HBW := hid (Hb.out.trans (Below.mono (below_new_al (w := wr) (rsBlk k (.slice bo bl bc) (.slice tO tl tc) lo hh sl (.slice ko kl kc))) Hb.out.size))
      have HX1 := hid (heap_alloc_new wr (rsBlk k (.slice bo bl bc) (.slice tO tl tc) lo hh sl (.slice ko kl kc)))
      have HL0 : Hid (PT 0 = []) := List.eq_nil_of_length_eq_zero (HPL.out 0)
      go_upto_region 14 with fail
      generalize wr.alloc (rsBlk k (.slice bo bl bc) (.slice tO tl tc) lo hh sl (.slice ko kl kc)) = wA at *
      generalize wr.heap.size = q at *
      clear q0 q1 q2 q3 q4 q5 q6 q0' q1' q2' q3' q4' q5' q6' d2' hgz hdz' c0 c1 c2 cz qz hg hdz Hb Hup HPE
      have HS0 : Hid (SpSt q w wA (rsBlk k (.slice bo bl bc) (.slice tO tl tc) lo hh sl (.slice ko kl kc)) (.slice none 0 0) (PT 0)) := by
        rw [HL0.out]; exact ⟨World.ownsRow_nil _ _ _ _, HBW.out, HX1.out⟩
      clear HBW HX1
      go_wp2_with fail
      go_loopw [11, 12] (fun sv si wr => ∃ (j : Nat) (bo2 : Option Addr) (bc2 : Nat), j ≤ n + 1 ∧ sv = .slice bo2 j bc2 ∧ si = .int .i64 (j : Int) ∧ Hid (SpSt q w wr (rsBlk k (.slice bo bl bc) (.slice tO tl tc) lo hh sl (.slice ko kl kc)) (.slice bo2 j bc2) (PT j))) (fun _ si _ => n + 1 - (intOf si).toNat)
      case atStart => exact ⟨0, none, 0, Nat.zero_le _, rfl, rfl, HS0⟩
      case round =>
        obtain ⟨j, bo2, bc2, hj, rfl, rfl, Hs⟩ := hrel
        clear HS0
        obtain ⟨x0, x1, x2, x3, x4, x5, x6, xz⟩ := blk7' Hs.out.box
        have hqz := lt_of_blk' Hs.out.box
        have HBX : Hid (∀ (so mo : Bool) (a b : Int), so = decide (0 < j) → mo = decide (j < n) → (0 < j → a = C.getD (j - 1) 0) → (j < n → b = C.getD j 0) → ∀ W, Below w.heap.size w W → Calls Tryz.prog 76 #[rsVal k (.slice bo bl bc) (.slice tO tl tc) lo hh sl (.slice ko kl kc), .bool so, .int .i64 a, .bool mo, .int .i64 b] W fun e w' => e = .returned (.int .i64 (PA j : Int)) ∧ Below W.heap.size W w') ∨ Hid (n < j) := by
          by_cases h9 : n < j
          · exact .inr h9
          · refine .inl (fun so mo a b h1 h2 h3 h4 W hW => ?_)
            have hp := HPE2.out j a b h3 (by rw [HCL.out]; exact h4) (by rw [HCL.out]; omega)
            rw [HCL.out, ← h1, ← h2] at hp
            have := HBT.out so mo a b W hW
            rw [hp] at this
            exact this
        by_cases hle : j ≤ n
        · have HBX := HBX.resolve_right (fun h9 => by have := h9.out; omega)
          by_cases hj0 : ¬ 0 < j
          · by_cases hjn : j < n
            · skip
              obtain ⟨b2, o2, rfl, z2, r2⟩ := HC.out.2 j hjn
              have r2' := (Hs.out.bel.cell (p := ⟨b2, o2 + j, none⟩) z2).trans r2
              have z2' := Nat.lt_of_lt_of_le z2 Hs.out.bel.size
              have hs5 : (0 : Int) ≤ (j : Int) := by omega
              have hs6 : (j : Int) < (n : Int) := by omega
              have HBJ := hid (HBX.out false true (0) (C.getD j 0) (by first | exact (decide_eq_false hj0).symm | exact (decide_eq_true (by omega)).symm) (by exact (decide_eq_true hjn).symm) (fun h => by omega) (fun _ => rfl))
              generalize C.getD j 0 = y2 at *
              have g1 : decide ((0 : Int) < (j : Int)) = false := decide_eq_false (by omega)
              have g2 : decide ((j : Int) < (n : Int)) = true := decide_eq_true (by omega)
              clear r2 HBX
              go_upto_region 23 with fail
              go_wp2_with fail
              refine (HBJ.out _ Hs.out.bel).mono ?_
              rintro e w3 ⟨rfl, hb3⟩
              have HS3 := hid (Hs.out.later hb3)
              clear hb3 HBJ
              go_wp2_with (at_builtin; refine wpList_append_lies _ rfl (.tmp 92) (.tmp 94) 28 rfl w.heap.size 3 i0 (.int .i64 0) 1 8 Tryz.underlying28 hi0 hz0 hz1 hz2 rfl (by decide) (.slice bo2 j bc2) j (ints (PT j)) rfl (HS3.out.ownAl _ (HPL.out j)) ⟨w3.heap.size, 0, none⟩ 1 1 [.int .i64 (PA j : Int)] rfl rfl (one_new _ _ _) (one_cell _ _) (by decide) (by unfold maxLen; omega) (by omega) (by have := HS3.out.bel.size; simp; omega) (w3.heap.size + 1) (by simp) ?_; intro g4 cap4 w4 hown4 hgrow4 hat4 hlt4; have HS4 := hid (HS3.out.app (v' := .slice (some ⟨g4, 0, none⟩) (j + 1) cap4) (xs' := PT (j + 1)) (by rw [HPL.out, HPT.out, ← ints_snoc]; exact hown4) hgrow4); clear hown4 hgrow4 hat4 hlt4)
              go_roundw
              case rel => exact ⟨j + 1, _, _, by omega, rfl, by go_num, HS4⟩
              case measure => simp [intOf]; omega
            · skip
              have HBJ := hid (HBX.out false false (0) (0) (by first | exact (decide_eq_false hj0).symm | exact (decide_eq_true (by omega)).symm) (by exact (decide_eq_false hjn).symm) (fun h => by omega) (fun h => absurd h hjn))
              have g1 : decide ((0 : Int) < (j : Int)) = false := decide_eq_false (by omega)
              have g2 : decide ((j : Int) < (n : Int)) = false := decide_eq_false (by omega)
              clear HBX
              go_upto_region 23 with fail
              go_wp2_with fail
              refine (HBJ.out _ Hs.out.bel).mono ?_
              rintro e w3 ⟨rfl, hb3⟩
              have HS3 := hid (Hs.out.later hb3)
              clear hb3 HBJ
              go_wp2_with (at_builtin; refine wpList_append_lies _ rfl (.tmp 92) (.tmp 94) 28 rfl w.heap.size 3 i0 (.int .i64 0) 1 8 Tryz.underlying28 hi0 hz0 hz1 hz2 rfl (by decide) (.slice bo2 j bc2) j (ints (PT j)) rfl (HS3.out.ownAl _ (HPL.out j)) ⟨w3.heap.size, 0, none⟩ 1 1 [.int .i64 (PA j : Int)] rfl rfl (one_new _ _ _) (one_cell _ _) (by decide) (by unfold maxLen; omega) (by omega) (by have := HS3.out.bel.size; simp; omega) (w3.heap.size + 1) (by simp) ?_; intro g4 cap4 w4 hown4 hgrow4 hat4 hlt4; have HS4 := hid (HS3.out.app (v' := .slice (some ⟨g4, 0, none⟩) (j + 1) cap4) (xs' := PT (j + 1)) (by rw [HPL.out, HPT.out, ← ints_snoc]; exact hown4) hgrow4); clear hown4 hgrow4 hat4 hlt4)
              go_roundw
              case rel => exact ⟨j + 1, _, _, by omega, rfl, by go_num, HS4⟩
              case measure => simp [intOf]; omega
          · by_cases hjn : j < n
            · skip
              obtain ⟨b1, o1, rfl, z1, r1⟩ := HC.out.2 (j - 1) (by omega)
              have r1' := (Hs.out.bel.cell (p := ⟨b1, o1 + (j - 1), none⟩) z1).trans r1
              have z1' := Nat.lt_of_lt_of_le z1 Hs.out.bel.size
              have hjm : (j : Int) - 1 = ((j - 1 : Nat) : Int) := by omega
              have hs3 : (0 : Int) ≤ ((j - 1 : Nat) : Int) := by omega
              have hs4 : ((j - 1 : Nat) : Int) < (n : Int) := by omega
              obtain ⟨b2, o2, e2, z2, r2⟩ := HC.out.2 j hjn
              have eb : b2 = b1 := by injection e2 with e2; injection e2 with x y; exact x.symm
              have eo : o2 = o1 := by injection e2 with e2; injection e2 with x y; exact y.symm
              subst eb
              subst eo
              have r2' := (Hs.out.bel.cell (p := ⟨b2, o2 + j, none⟩) z1).trans r2
              have hs5 : (0 : Int) ≤ (j : Int) := by omega
              have hs6 : (j : Int) < (n : Int) := by omega
              have HBJ := hid (HBX.out true true (C.getD (j - 1) 0) (C.getD j 0) (by first | exact (decide_eq_false hj0).symm | exact (decide_eq_true (by omega)).symm) (by exact (decide_eq_true hjn).symm) (fun _ => rfl) (fun _ => rfl))
              generalize C.getD (j - 1) 0 = y1 at *
              generalize C.getD j 0 = y2 at *
              have g1 : decide ((0 : Int) < (j : Int)) = true := decide_eq_true (by omega)
              have g2 : decide ((j : Int) < (n : Int)) = true := decide_eq_true (by omega)
              clear r1 r2 e2 HBX
              go_upto_region 23 with fail
              go_wp2_with fail
              refine (HBJ.out _ Hs.out.bel).mono ?_
              rintro e w3 ⟨rfl, hb3⟩
              have HS3 := hid (Hs.out.later hb3)
              clear hb3 HBJ
              go_wp2_with (at_builtin; refine wpList_append_lies _ rfl (.tmp 92) (.tmp 94) 28 rfl w.heap.size 3 i0 (.int .i64 0) 1 8 Tryz.underlying28 hi0 hz0 hz1 hz2 rfl (by decide) (.slice bo2 j bc2) j (ints (PT j)) rfl (HS3.out.ownAl _ (HPL.out j)) ⟨w3.heap.size, 0, none⟩ 1 1 [.int .i64 (PA j : Int)] rfl rfl (one_new _ _ _) (one_cell _ _) (by decide) (by unfold maxLen; omega) (by omega) (by have := HS3.out.bel.size; simp; omega) (w3.heap.size + 1) (by simp) ?_; intro g4 cap4 w4 hown4 hgrow4 hat4 hlt4; have HS4 := hid (HS3.out.app (v' := .slice (some ⟨g4, 0, none⟩) (j + 1) cap4) (xs' := PT (j + 1)) (by rw [HPL.out, HPT.out, ← ints_snoc]; exact hown4) hgrow4); clear hown4 hgrow4 hat4 hlt4)
              go_roundw
              case rel => exact ⟨j + 1, _, _, by omega, rfl, by go_num, HS4⟩
              case measure => simp [intOf]; omega
            · skip
              obtain ⟨b1, o1, rfl, z1, r1⟩ := HC.out.2 (j - 1) (by omega)
              have r1' := (Hs.out.bel.cell (p := ⟨b1, o1 + (j - 1), none⟩) z1).trans r1
              have z1' := Nat.lt_of_lt_of_le z1 Hs.out.bel.size
              have hjm : (j : Int) - 1 = ((j - 1 : Nat) : Int) := by omega
              have hs3 : (0 : Int) ≤ ((j - 1 : Nat) : Int) := by omega
              have hs4 : ((j - 1 : Nat) : Int) < (n : Int) := by omega
              have HBJ := hid (HBX.out true false (C.getD (j - 1) 0) (0) (by first | exact (decide_eq_false hj0).symm | exact (decide_eq_true (by omega)).symm) (by exact (decide_eq_false hjn).symm) (fun _ => rfl) (fun h => absurd h hjn))
              generalize C.getD (j - 1) 0 = y1 at *
              have g1 : decide ((0 : Int) < (j : Int)) = true := decide_eq_true (by omega)
              have g2 : decide ((j : Int) < (n : Int)) = false := decide_eq_false (by omega)
              clear r1 HBX
              go_upto_region 23 with fail
              go_wp2_with fail
              refine (HBJ.out _ Hs.out.bel).mono ?_
              rintro e w3 ⟨rfl, hb3⟩
              have HS3 := hid (Hs.out.later hb3)
              clear hb3 HBJ
              go_wp2_with (at_builtin; refine wpList_append_lies _ rfl (.tmp 92) (.tmp 94) 28 rfl w.heap.size 3 i0 (.int .i64 0) 1 8 Tryz.underlying28 hi0 hz0 hz1 hz2 rfl (by decide) (.slice bo2 j bc2) j (ints (PT j)) rfl (HS3.out.ownAl _ (HPL.out j)) ⟨w3.heap.size, 0, none⟩ 1 1 [.int .i64 (PA j : Int)] rfl rfl (one_new _ _ _) (one_cell _ _) (by decide) (by unfold maxLen; omega) (by omega) (by have := HS3.out.bel.size; simp; omega) (w3.heap.size + 1) (by simp) ?_; intro g4 cap4 w4 hown4 hgrow4 hat4 hlt4; have HS4 := hid (HS3.out.app (v' := .slice (some ⟨g4, 0, none⟩) (j + 1) cap4) (xs' := PT (j + 1)) (by rw [HPL.out, HPT.out, ← ints_snoc]; exact hown4) hgrow4); clear hown4 hgrow4 hat4 hlt4)
              go_roundw
              case rel => exact ⟨j + 1, _, _, by omega, rfl, by go_num, HS4⟩
              case measure => simp [intOf]; omega
        · obtain rfl : j = n + 1 := by omega
          have HO := hid Hs.out.own
          rw [HPL.out, HPA.out] at HO
          clear HBX
          go_wp2_with fail
          go_ret2
          exact ⟨Hs.out.bel, HP2.out _ _ _ HU.out HO.out⟩

end Go.Proofs.YtklicjbpjigfdabGreat

/- DERIVED. The walks of the program's own Split. -/
namespace Go.Proofs.YtklicjbpjigfdabGreat
open Go.RowKit
attribute [local go_sem ↓] Go.wp_at_zero Go.wp_at_succ
variable {F : Nat → Prop}

theorem usum_mono {p q : Int} (h : p ≤ q) : ∀ L : List Lvl, usum p L ≤ usum q L := by
  have hc : ∀ l : List Int, cnt p l ≤ cnt q l := fun l => by
    induction l with
    | nil => exact Nat.le_refl _
    | cons x l ih =>
      rw [cnt_cons, cnt_cons]
      by_cases h1 : x ≤ p
      · rw [if_pos h1, if_pos (show x ≤ q by omega)]; omega
      · rw [if_neg h1]; omega
  intro L
  induction L with
  | nil => exact Nat.le_refl _
  | cons l L ih =>
    have := hc l.items
    simp only [usum]
    omega
/-- What lies below part j. -/
def lowAt (L : List Lvl) (C : List Int) (j : Nat) : Nat := if j = 0 then 0 else upAt L C (j - 1)
theorem upAt_le (L : List Lvl) (C : List Int) (j : Nat) : upAt L C j ≤ wsum L := by
  unfold upAt; split
  · exact usum_le _ _
  · exact Nat.le_refl _
theorem lowAt_le {L : List Lvl} {C : List Int} (hu : CutsUp C) (j : Nat) : lowAt L C j ≤ upAt L C j := by
  unfold lowAt
  by_cases h0 : j = 0
  · rw [if_pos h0]; exact Nat.zero_le _
  · rw [if_neg h0]
    by_cases h1 : j < C.length
    · unfold upAt
      rw [if_pos h1, if_pos (show j - 1 < C.length by omega)]
      have := hu (j - 1) (by omega)
      rw [show j - 1 + 1 = j by omega] at this
      exact usum_mono (by omega) L
    · have : upAt L C j = wsum L := by unfold upAt; rw [if_neg h1]
      rw [this]; exact upAt_le _ _ _
theorem partAt_int {L : List Lvl} {C : List Int} (hu : CutsUp C) (j : Nat) : (partAt L C j : Int) = (upAt L C j : Int) - (lowAt L C j : Int) := by
  have h := lowAt_le (L := L) hu j
  have e : partAt L C j = upAt L C j - lowAt L C j := rfl
  rw [e]; omega
theorem lowAt_succ (L : List Lvl) (C : List Int) (j : Nat) : lowAt L C (j + 1) = upAt L C j := by
  unfold lowAt; rw [if_neg (by omega), show j + 1 - 1 = j by omega]

/-- What rise answers. -/
def RiPost (C : List Int) (e : Ending) : Prop := (CutsUp C ∧ e = .returned (.bool true)) ∨ (¬ CutsUp C ∧ e = .returned (.bool false))

set_option maxHeartbeats 1000000 in
set_option maxRecDepth 100000 in
theorem rise_any (n cap : Nat) (ao : Option Addr) (C : List Int) (w : World) (hC : IntsG w ao n C) (hn : n ≤ 16) :
    Calls Tryz.prog 101 #[.slice ao n cap] w fun e w' => Below w.heap.size w w' ∧ RiPost C e := by
  have HCL : Hid (C.length = n) := hC.1
  have HC := hid hC
  have HP1 : Hid (¬ CutsUp C → RiPost C (.returned (.bool false))) := fun h => .inr ⟨h, rfl⟩
  have HP2 : Hid (CutsUp C → RiPost C (.returned (.bool true))) := fun h => .inl ⟨h, rfl⟩
  generalize RiPost C = RP at *
  clear hC
  go_enter Tryz.func101, Tryz.ntmps101
  go_wp2_with fail
  go_loopw [3] (fun si wr => ∃ j : Nat, 1 ≤ j ∧ j ≤ n + 1 ∧ si = .int .i64 (j : Int) ∧ Hid (∀ t, t + 1 < j → t + 1 < n → C.getD t 0 < C.getD (t + 1) 0) ∧ Hid (Below w.heap.size w wr)) (fun si _ => n + 1 - (intOf si).toNat)
  case atStart => exact ⟨1, Nat.le_refl _, by omega, rfl, fun t ht => by omega, Below.refl _ _⟩
  case round =>
    obtain ⟨j, hj1, hj, rfl, Hup, Hb⟩ := hrel
    by_cases hlt : j < n
    · obtain ⟨b1, o1, rfl, z1, r1⟩ := HC.out.2 (j - 1) (by omega)
      obtain ⟨b2, o2, e2, z2, r2⟩ := HC.out.2 j hlt
      have eb : b2 = b1 := by injection e2 with e2; injection e2 with x y; exact x.symm
      have eo : o2 = o1 := by injection e2 with e2; injection e2 with x y; exact y.symm
      subst eb
      subst eo
      have r1' := (Hb.out.cell (p := ⟨b2, o2 + (j - 1), none⟩) z1).trans r1
      have r2' := (Hb.out.cell (p := ⟨b2, o2 + j, none⟩) z1).trans r2
      have z1' := Nat.lt_of_lt_of_le z1 Hb.out.size
      have hjm : (j : Int) - 1 = ((j - 1 : Nat) : Int) := by omega
      have hs3 : (0 : Int) ≤ ((j - 1 : Nat) : Int) := by omega
      have hs4 : ((j - 1 : Nat) : Int) < (n : Int) := by omega
      have hs5 : (0 : Int) ≤ (j : Int) := by omega
      have hs6 : (j : Int) < (n : Int) := by omega
      by_cases hcmp : C.getD (j - 1) 0 < C.getD j 0
      · have hd1 : decide (C.getD j 0 ≤ C.getD (j - 1) 0) = false := decide_eq_false (by omega)
        have HU2 : Hid (∀ t, t + 1 < j + 1 → t + 1 < n → C.getD t 0 < C.getD (t + 1) 0) := fun t ht h9 => by
          by_cases e : t + 1 = j
          · have e' : t = j - 1 := by omega
            rw [e, e']; exact hcmp
          · exact Hup.out t (by omega) h9
        generalize C.getD (j - 1) 0 = y1 at *
        generalize C.getD j 0 = y2 at *
        clear r1 r2 e2
        go_wp2_with fail
        go_quiet (fail)
        go_wp2_with fail
        go_roundw
        case rel => exact ⟨j + 1, by omega, by omega, by go_num, HU2, below_drewN Hb.out _⟩
        case measure => simp [intOf]; omega
      · have hd1 : decide (C.getD j 0 ≤ C.getD (j - 1) 0) = true := decide_eq_true (by omega)
        have HNU : Hid (¬ CutsUp C) := fun h9 => hcmp (by have := h9 (j - 1) (by rw [HCL.out]; omega); rw [show j - 1 + 1 = j by omega] at this; exact this)
        generalize C.getD (j - 1) 0 = y1 at *
        generalize C.getD j 0 = y2 at *
        clear r1 r2 e2 hcmp
        go_wp2_with fail
        go_quiet (fail)
        go_wp2_with fail
        go_ret
        exact ⟨below_drewN Hb.out _, HP1.out HNU.out⟩
    · have HU : Hid (CutsUp C) := fun t ht => Hup.out t (by rw [HCL.out] at ht; omega) (by rw [HCL.out] at ht; exact ht)
      go_wp2_with fail
      go_ret
      exact ⟨Hb.out, HP2.out HU.out⟩

set_option maxHeartbeats 2000000 in
set_option maxRecDepth 100000 in
theorem skSplit_any (k g cap n ca : Nat) (lo hi : Int) (ao : Option Addr) (C : List Int) (vs : List Value) (L : List Lvl) (w : World) (hL : LvAt F w g cap vs L) (hs : ∀ j, j < L.length → Srt (L.getD j Lvl.none).items) (hlen : L.length ≤ 30) (hbd : wsum L ≤ 1099511627776) (hC : IntsG w ao n C) (hn : n ≤ 16) (hu : CutsUp C) :
    Calls Tryz.prog 102 #[skVal k g L.length cap lo hi, .slice ao n ca] w fun e w' => ∃ gt, e = .returned (.slice (some ⟨gt, 0, none⟩) (n + 1) (n + 1)) ∧ w.heap.size ≤ gt ∧ w'.ownsRow 0 3 1 (.slice (some ⟨gt, 0, none⟩) (n + 1) (n + 1)) (n + 1) (ints (partsOf L C)) ∧ Below w.heap.size w w' := by
  obtain ⟨i0, hi0, hz0, hz1, hz2⟩ := info_parts Tryz.infoInt
  have HCL : Hid (C.length = n) := hC.1
  have HC := hid hC
  have HUP := hid (fun (q : Int) (w' : World) (hb : Below w.heap.size w w') => skUpTo_any k _ _ lo hi q _ _ w' (hL.below hb) hs hlen hbd)
  have HCT := hid (fun (w' : World) (hb : Below w.heap.size w w') => count_any k _ _ lo hi _ _ w' (hL.below hb) hlen hbd)
  have HPT : Hid (∀ j, partsTo L C (j + 1) = partsTo L C j ++ [(partAt L C j : Int)]) := partsTo_succ _ _
  have HPA : Hid (partsTo L C (n + 1) = partsOf L C) := by rw [Hid, ← hC.1]; rfl
  have HPI : Hid (∀ j, (partAt L C j : Int) = (upAt L C j : Int) - (lowAt L C j : Int)) := partAt_int hu
  have HLS : Hid (∀ j, lowAt L C (j + 1) = upAt L C j) := lowAt_succ L C
  have HUJ : Hid (∀ j, j < n → usum (C.getD j 0) L = upAt L C j) := fun j hj => by unfold upAt; rw [if_pos (by rw [hC.1]; exact hj)]
  have HUE : Hid (wsum L = upAt L C n) := by unfold Hid upAt; rw [if_neg (by rw [hC.1]; omega)]
  have HUL : Hid (∀ j, upAt L C j ≤ 1099511627776 ∧ lowAt L C j ≤ upAt L C j) := fun j => ⟨Nat.le_trans (upAt_le _ _ _) hbd, lowAt_le hu j⟩
  have HL0 : Hid (lowAt L C 0 = 0) := rfl
  have HP0 : Hid (partsTo L C 0 = []) := rfl
  generalize partsTo L C = PT at *
  generalize partAt L C = PA at *
  generalize partsOf L C = PO at *
  generalize lowAt L C = LA at *
  generalize upAt L C = UA at *
  generalize wsum L = ws at *
  clear hL hC hs hu
  go_enter Tryz.func102, Tryz.ntmps102
  go_wp2_with (at_make; refine wpList_make_own _ rfl _ _ 28 rfl (w.heap.size + 1) 3 i0 (.int .i64 0) 1 Tryz.underlying28 hi0 hz0 hz1 _ _ _ (n + 1) rfl rfl (by omega) (by rw [hz2]; omega) (by unfold maxLen; omega) (by simp) ?_; intro w1 hown1 hgrow1; have hk0 := grown_new hgrow1 (by simp); have hw1z := hgrow1.size; simp at hw1z hown1; have HK0 := hid hk0; have HO1 := hid hown1; have HG1 := hid hgrow1; clear hk0 hown1 hgrow1)
  have HB1 : Hid (Below w.heap.size w w1) := ((Below.refl _ _).alloc (Nat.le_refl _) _).grown HG1.out (by simp) (fun k h => by cases h)
  have hgt : w.heap.size + 1 < w1.heap.size := ownsRow_lt HO1.out rfl
  go_loopw [5, 6, 17] (fun sp sb si wr => ∃ (j : Nat), j ≤ n ∧ sp = .slice (some ⟨w.heap.size + 1, 0, none⟩) j (n + 1) ∧ sb = .int .i64 (LA j : Int) ∧ si = .int .i64 j ∧
      Hid (wr.ownsRow (w.heap.size + 1) 3 1 (.slice (some ⟨w.heap.size + 1, 0, none⟩) j (n + 1)) j (ints (PT j))) ∧ Hid (Below (w.heap.size + 1) w1 wr)) (fun _ _ si _ => n - (intOf si).toNat)
  case atStart => exact ⟨0, Nat.zero_le _, rfl, by rw [HL0.out]; rfl, rfl, by rw [HP0.out]; exact HO1.out, Below.refl _ _⟩
  case round =>
    obtain ⟨j, hj, rfl, rfl, rfl, Hown, Hbel⟩ := hrel
    have HBr : Hid (Below w.heap.size w wr) := HB1.out.trans (Hbel.out.mono (by omega))
    obtain ⟨f0, f1, f2, f3, fz⟩ := blk4 ((Hbel.out.block w.heap.size (by omega)).trans HK0.out)
    have HKR := hid ((Hbel.out.block w.heap.size (by omega)).trans HK0.out)
    have hwrz : w.heap.size + 1 < wr.heap.size := ownsRow_lt Hown.out rfl
    by_cases hlt : j < n
    · obtain ⟨b1, o1, rfl, z1, r1⟩ := HC.out.2 j hlt
      have r1' := (HBr.out.cell (p := ⟨b1, o1 + j, none⟩) z1).trans r1
      have z1' := Nat.lt_of_lt_of_le z1 HBr.out.size
      have hs5 : (0 : Int) ≤ (j : Int) := by omega
      have hs6 : (j : Int) < (n : Int) := by omega
      have HUQ := hid (HUP.out (C.getD j 0))
      rw [HUJ.out j hlt] at HUQ
      obtain ⟨hu1, hu2⟩ := HUL.out j
      have HPJ := hid (HPI.out j)
      have HPS := hid (HPT.out j)
      have HLJ := hid (HLS.out j)
      generalize C.getD j 0 = y at *
      generalize UA j = u at *
      generalize LA j = l at *
      generalize PA j = pa at *
      clear r1 HUP
      go_wp2_with (first | (go_at_call 100; refine (HUQ.out _ HBr.out).mono ?_; rintro e w2 ⟨rfl, hb2⟩; have hw2z := hb2.size; have HB2 := hid hb2; have HO2 := hid (ownsRow_below Hown.out hb2 (fun _ e => ownsRow_lt Hown.out e)); clear hb2) | (at_builtin; refine wpList_append_fits _ rfl (.tmp 24) (.tmp 28) 28 rfl (w.heap.size + 1) 3 i0 1 Tryz.underlying28 hi0 hz1 (w.heap.size + 1) j (n + 1) _ rfl (HO2.out.alloc _) ⟨w2.heap.size, 0, none⟩ 1 1 [.int .i64 ((u : Int) - (l : Int))] rfl rfl (one_new _ _ _) (one_cell _ _) (by omega) ?_; intro w3 hown3 hgrow3; have HO3 := hid hown3; have HG3 := hid hgrow3; clear hown3 hgrow3))
      go_roundw
      case rel =>
        refine ⟨j + 1, by omega, rfl, by rw [HLJ.out], by go_num, ?_, ?_⟩
        · rw [HPS.out, ints_append, HPJ.out]
          exact HO3.out
        · exact ((Hbel.out.trans (HB2.out.mono (by omega))).alloc (by have := Hbel.out.size; omega) _).grown HG3.out (by simp; omega) (fun k hk => by cases hk; exact Nat.le_refl _)
      case measure => simp [intOf]; omega
    · obtain rfl : j = n := by omega
      obtain ⟨hu1, hu2⟩ := HUL.out j
      have HCT2 := HCT
      rw [HUE.out] at HCT2
      have HPJ := hid (HPI.out j)
      have HPS := hid (HPT.out j)
      rw [HPA.out] at HPS
      generalize UA j = u at *
      generalize LA j = l at *
      generalize PA j = pa at *
      clear HUP HCT HUE
      go_wp2_with (first | (go_at_call 60; refine (HCT2.out _ HBr.out).mono ?_; rintro e w2 ⟨rfl, hb2⟩; have hw2z := hb2.size; have HB2 := hid hb2; have HO2 := hid (ownsRow_below Hown.out hb2 (fun _ e => ownsRow_lt Hown.out e)); clear hb2) | (at_builtin; refine wpList_append_fits _ rfl (.tmp 34) (.tmp 38) 28 rfl (w.heap.size + 1) 3 i0 1 Tryz.underlying28 hi0 hz1 (w.heap.size + 1) j (j + 1) _ rfl (HO2.out.alloc _) ⟨w2.heap.size, 0, none⟩ 1 1 [.int .i64 ((u : Int) - (l : Int))] rfl rfl (one_new _ _ _) (one_cell _ _) (by omega) ?_; intro w3 hown3 hgrow3; have HO3 := hid hown3; have HG3 := hid hgrow3; clear hown3 hgrow3))
      have HO4 : Hid (w3.ownsRow (w.heap.size + 1) 3 1 (.slice (some ⟨w.heap.size + 1, 0, none⟩) (j + 1) (j + 1)) (j + 1) (ints PO)) := by
        rw [HPS.out, ints_append, HPJ.out]
        exact HO3.out
      have HB4 : Hid (Below w.heap.size w w3) := HB1.out.trans ((((Hbel.out.trans (HB2.out.mono (by omega))).alloc (by have := Hbel.out.size; omega) _).grown HG3.out (by simp; omega) (fun k hk => by cases hk; exact Nat.le_refl _)).mono (by omega))
      go_ret
      exact ⟨_, rfl, by omega, ownsRow_base HO4.out (Nat.zero_le _), HB4.out⟩

end Go.Proofs.YtklicjbpjigfdabGreat

/- DERIVED. The walk of the program's desk: Split. -/
namespace Go.Proofs.YtklicjbpjigfdabGreat
open Go.RowKit
attribute [local go_sem ↓] Go.wp_at_zero Go.wp_at_succ
variable {F : Nat → Prop}

set_option maxHeartbeats 400000 in
theorem deskSplit_no (d n cap : Nat) (ao : Option Addr) (A : Int) (D : Dk) (w : World) (h : DeskAt F w d D) (hs : hasB A D.sks.length = false) :
    Calls Tryz.prog 78 #[.pointer (some ⟨d, 0, none⟩), .int .i64 A, .slice ao n cap] w fun e w' => e = .returned (.tuple #[.slice none 0 0, .int .i64 4]) ∧ w' = w := by
  obtain ⟨vt, vk, rs, h⟩ := h
  obtain ⟨ao', c, rfl, _⟩ := h.vkForm
  obtain ⟨_, _, c2, _⟩ := blk3 h.blk
  have HH := hid (has_any d A _ _ _ _ c2)
  rw [hs] at HH
  clear h c2
  go_enter Tryz.func78, Tryz.ntmps78
  go_wp2_with (go_at_call 59; refine HH.out.mono ?_; rintro e w' ⟨rfl, hw⟩; obtain rfl := hw.symm)
  go_ret2
  exact ⟨rfl, rfl⟩

/-- What Split of the program answers where there is something to tell. -/
def SpFull (L : List Lvl) (C : List Int) (w : World) (e : Ending) (w' : World) : Prop := (¬ CutsUp C ∧ e = .returned (.tuple #[.slice none 0 0, .int .i64 1])) ∨ (CutsUp C ∧ ∃ gt, w.heap.size ≤ gt ∧ e = .returned (.tuple #[.slice (some ⟨gt, 0, none⟩) (C.length + 1) (C.length + 1), .int .i64 0]) ∧ w'.ownsRow 0 3 1 (.slice (some ⟨gt, 0, none⟩) (C.length + 1) (C.length + 1)) (C.length + 1) (ints (partsOf L C)))

set_option maxHeartbeats 1000000 in
set_option maxRecDepth 100000 in
theorem deskSplit_bad (d i n cap : Nat) (ao : Option Addr) (c : Int) (D : Dk) (w : World) (h : DeskAt F w d D) (hi : i < D.sks.length) (hok : (D.sks.getD i Hd.none).Ok) (hc : (wsum (D.sks.getD i Hd.none).sk.lv = 0 ∧ c = 8) ∨ (wsum (D.sks.getD i Hd.none).sk.lv ≠ 0 ∧ 16 < n ∧ c = 1)) :
    Calls Tryz.prog 78 #[.pointer (some ⟨d, 0, none⟩), .int .i64 (i : Int), .slice ao n cap] w fun e w' => e = .returned (.tuple #[.slice none 0 0, .int .i64 c]) ∧ Below w.heap.size w w' := by
  obtain ⟨vt, vk, rs, h⟩ := h
  have hdz := lt_of_blk' h.blk
  obtain ⟨g, c', rfl, hg, q0, q1, q2, q3, q4⟩ := h.cells5 hi
  obtain ⟨_, _, c2, _⟩ := blk3 h.blk
  have HH := hid (has_any d (i : Int) _ _ _ _ c2)
  rw [hasB_nat hi] at HH
  have hlv := h.lv i hi
  have HC := hid (fun (w' : World) (hb : Below w.heap.size w w') => count_any (D.sks.getD i Hd.none).sk.k _ _ (D.sks.getD i Hd.none).sk.lo (D.sks.getD i Hd.none).sk.hi _ _ w' (hlv.below hb) (by have := hok.len; omega) (by have := hok.cnt; omega))
  have hcnt := hok.cnt
  generalize (D.sks.getD i Hd.none).sk = sk at *
  generalize rs.getD i Ref.none = r at *
  generalize (D.sks.getD i Hd.none).sealed = sl at *
  generalize D.sks.length = m at *
  generalize wsum sk.lv = ws at *
  clear h hok hlv
  go_enter Tryz.func78, Tryz.ntmps78
  go_wp2_with (first | (go_at_call 59; refine HH.out.mono ?_; rintro e w' ⟨rfl, hw⟩; obtain rfl := hw.symm))
  have hbB : Below w.heap.size w (w.alloc (skBlk sk.k r.g sk.lv.length r.cap sk.lo sk.hi)) := (Below.refl _ _).alloc (Nat.le_refl _) _
  refine (HC.out _ hbB).mono ?_
  rintro e w1 ⟨rfl, hb1⟩
  have HB1 : Hid (Below w.heap.size w w1) := hbB.trans (hb1.mono hbB.size)
  clear hb1 hbB HC
  rcases hc with ⟨rfl, rfl⟩ | ⟨h0, hn, rfl⟩
  · go_wp2_with fail
    go_ret2
    exact ⟨rfl, HB1.out⟩
  · have h0' : ((ws : Int) == 0) = false := by simpa using h0
    have hn' : decide ((16 : Int) < (n : Int)) = true := decide_eq_true (by omega)
    go_wp2_with fail
    go_ret2
    exact ⟨rfl, HB1.out⟩

set_option maxHeartbeats 1000000 in
set_option maxRecDepth 100000 in
theorem deskSplit_any (d i n cap : Nat) (ao : Option Addr) (C : List Int) (D : Dk) (w : World) (h : DeskAt F w d D) (hi : i < D.sks.length) (hok : (D.sks.getD i Hd.none).Ok) (hs : ∀ j, j < (D.sks.getD i Hd.none).sk.lv.length → Srt ((D.sks.getD i Hd.none).sk.lv.getD j Lvl.none).items) (hw : wsum (D.sks.getD i Hd.none).sk.lv ≠ 0) (hC : IntsG w ao n C) (hn : n ≤ 16) :
    Calls Tryz.prog 78 #[.pointer (some ⟨d, 0, none⟩), .int .i64 (i : Int), .slice ao n cap] w fun e w' => Below w.heap.size w w' ∧ SpFull (D.sks.getD i Hd.none).sk.lv C w e w' := by
  obtain ⟨vt, vk, rs, h⟩ := h
  have hdz := lt_of_blk' h.blk
  obtain ⟨g, c', rfl, hg, q0, q1, q2, q3, q4⟩ := h.cells5 hi
  obtain ⟨_, _, c2, _⟩ := blk3 h.blk
  have HH := hid (has_any d (i : Int) _ _ _ _ c2)
  rw [hasB_nat hi] at HH
  have hlv := h.lv i hi
  have HC := hid (fun (w' : World) (hb : Below w.heap.size w w') => count_any (D.sks.getD i Hd.none).sk.k _ _ (D.sks.getD i Hd.none).sk.lo (D.sks.getD i Hd.none).sk.hi _ _ w' (hlv.below hb) (by have := hok.len; omega) (by have := hok.cnt; omega))
  have HR := hid (fun (w' : World) (hb : Below w.heap.size w w') => rise_any n cap ao C w' (hC.below hb) hn)
  have HS := hid (fun (hu : CutsUp C) (w' : World) (hb : Below w.heap.size w w') => skSplit_any (D.sks.getD i Hd.none).sk.k _ _ n cap (D.sks.getD i Hd.none).sk.lo (D.sks.getD i Hd.none).sk.hi ao C _ _ w' (hlv.below hb) hs (by have := hok.len; omega) (by have := hok.cnt; omega) (hC.below hb) hn hu)
  have HP1 : Hid (∀ w', ¬ CutsUp C → SpFull (D.sks.getD i Hd.none).sk.lv C w (.returned (.tuple #[.slice none 0 0, .int .i64 1])) w') := fun w' h => .inl ⟨h, rfl⟩
  have HP2 : Hid (∀ w' gt, CutsUp C → w.heap.size ≤ gt → w'.ownsRow 0 3 1 (.slice (some ⟨gt, 0, none⟩) (n + 1) (n + 1)) (n + 1) (ints (partsOf (D.sks.getD i Hd.none).sk.lv C)) → SpFull (D.sks.getD i Hd.none).sk.lv C w (.returned (.tuple #[.slice (some ⟨gt, 0, none⟩) (n + 1) (n + 1), .int .i64 0])) w') := fun w' gt h hg h2 => by
    have e9 := hC.1
    subst e9
    exact .inr ⟨h, gt, hg, rfl, h2⟩
  have hcnt := hok.cnt
  generalize SpFull (D.sks.getD i Hd.none).sk.lv C w = SP at *
  generalize partsOf (D.sks.getD i Hd.none).sk.lv C = PO at *
  generalize (D.sks.getD i Hd.none).sk = sk at *
  generalize rs.getD i Ref.none = r at *
  generalize (D.sks.getD i Hd.none).sealed = sl at *
  generalize D.sks.length = m at *
  generalize wsum sk.lv = ws at *
  have h0' : ((ws : Int) == 0) = false := by simpa using hw
  have hn' : decide ((16 : Int) < (n : Int)) = false := decide_eq_false (by omega)
  clear h hok hlv hC hs
  go_enter Tryz.func78, Tryz.ntmps78
  go_wp2_with (first | (go_at_call 59; refine HH.out.mono ?_; rintro e w' ⟨rfl, hw⟩; obtain rfl := hw.symm))
  have hbB : Below w.heap.size w (w.alloc (skBlk sk.k r.g sk.lv.length r.cap sk.lo sk.hi)) := (Below.refl _ _).alloc (Nat.le_refl _) _
  refine (HC.out _ hbB).mono ?_
  rintro e w1 ⟨rfl, hb1⟩
  have HB1 : Hid (Below w.heap.size w w1) := hbB.trans (hb1.mono hbB.size)
  have HK1 := hid (below_new hb1 (by simp))
  have hw1z : w.heap.size < w1.heap.size := by have := hb1.size; simp at this; omega
  clear hb1 hbB HC
  go_wp2_with fail
  refine (HR.out _ HB1.out).mono ?_
  rintro e w2 ⟨hb2, hp⟩
  have HB2 : Hid (Below w.heap.size w w2) := HB1.out.trans (hb2.mono HB1.out.size)
  have hk2 := (hb2.block _ hw1z).trans HK1.out
  obtain ⟨e0, e1, e2, e3, ez⟩ := blk4 hk2
  clear hb2 HK1 hk2
  rcases hp with ⟨hu, rfl⟩ | ⟨hu, rfl⟩
  · have HU := hid hu
    have HS2 := hid (HS.out hu)
    clear HS hu
    go_wp2_with fail
    refine (HS2.out _ HB2.out).mono ?_
    rintro e w3 ⟨gt, rfl, hg3, ho3, hb3⟩
    have HB3 : Hid (Below w.heap.size w w3) := HB2.out.trans (hb3.mono HB2.out.size)
    have HQ := hid (HP2.out w3 gt HU.out (Nat.le_trans HB2.out.size hg3) ho3)
    clear hb3 ho3
    go_wp2_with fail
    go_ret2
    exact ⟨HB3.out, HQ.out⟩
  · have HQ := hid (fun w' => HP1.out w' hu)
    clear hu
    go_wp2_with fail
    go_ret2
    exact ⟨HB2.out, HQ.out _⟩

end Go.Proofs.YtklicjbpjigfdabGreat
