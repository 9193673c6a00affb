/- DERIVED. One step on both desks: Ends, Size. -/
import Derived.Test.YtklicjbpjigfdabGreatLawS
import Derived.Test.YtklicjbpjigfdabGreatQ21
import Derived.Test.YtklicjbpjigfdabGreatQ20
import Derived.Test.YtklicjbpjigfdabGreatEntR
import Derived.Test.YtklicjbpjigfdabGreatQ9
namespace Go.Proofs.YtklicjbpjigfdabGreat
open Go.RowKit
attribute [local go_sem ↓] Go.wp_at_zero Go.wp_at_succ

/-- What Ends answers. -/
def endsA (D : Dk) (A : Int) : Int × Int × Int := if hasB A D.sks.length then (if wsum (D.sks.getD A.toNat Hd.none).sk.lv = 0 then (0, 0, 8) else ((D.sks.getD A.toNat Hd.none).sk.lo, (D.sks.getD A.toNat Hd.none).sk.hi, 0)) else (0, 0, 4)
theorem endsT {F : Nat → Prop} (d : Nat) (A : Int) (D : Dk) (w : World) (h : DeskAt F w d D) (hd : LInv D) :
    Calls Tryz.prog 39 #[.pointer (some ⟨d, 0, none⟩), .int .i64 A] w fun e w' => e = .returned (.tuple #[.int .i64 (endsA D A).1, .int .i64 (endsA D A).2.1, .int .i64 (endsA D A).2.2]) ∧ Below w.heap.size w w' := by
  cases hs : hasB A D.sks.length with
  | false =>
    have e9 : endsA D A = (0, 0, 4) := by unfold endsA; rw [hs]; rfl
    rw [e9]
    exact (deskEnds_no d D A w h hs).mono (fun e w' ⟨he, hw⟩ => ⟨he, by rw [hw]; exact Below.refl _ _⟩)
  | true =>
    obtain ⟨i, rfl, hi⟩ := hasB_at hs
    refine (deskEnds d D i w h hi (hd.inv.sk i hi).ok).mono (fun e w' ⟨he, hb⟩ => ⟨?_, hb⟩)
    rw [he]
    unfold endsA
    rw [hs, Int.toNat_natCast, if_pos rfl]
    split <;> rfl
theorem rendsT {G : Nat → Prop} (d : Nat) (A : Int) (D : Dk) (w : World) (h : RAt G w d D) :
    Calls Tryz.prog 40 #[.pointer (some ⟨d, 0, none⟩), .int .i64 A] w fun e w' => e = .returned (.tuple #[.int .i64 (endsA D A).1, .int .i64 (endsA D A).2.1, .int .i64 (endsA D A).2.2]) ∧ Below w.heap.size w w' := by
  cases hs : hasB A D.sks.length with
  | false =>
    have e9 : endsA D A = (0, 0, 4) := by unfold endsA; rw [hs]; rfl
    rw [e9]
    exact (rends_no d A D w h hs).mono (fun e w' ⟨he, hw⟩ => ⟨he, by rw [hw]; exact Below.refl _ _⟩)
  | true =>
    obtain ⟨i, rfl, hi⟩ := hasB_at hs
    refine (rends_any d i D w h hi).mono (fun e w' ⟨he, hb⟩ => ⟨?_, hb⟩)
    rw [he]
    unfold endsA
    rw [hs, Int.toNat_natCast, if_pos rfl]
    split <;> rfl

/-- What the walks of the telling calls need of the world: the two desks, wherever the world has gone on. -/
theorem LwSt.tell {w0 w : World} {p pd pr : Nat} {D : Dk} {M : List Le} (h : LwSt w0 w p pd pr D D M) : ∃ F G, (∀ W, Below w.heap.size w W → DeskAt F W pd D ∧ RAt G W pr D ∧ W.cell? ⟨p, 0, none⟩ = some (.pointer (some ⟨pd, 0, none⟩)) ∧ W.cell? ⟨p, 1, none⟩ = some (.pointer (some ⟨pr, 0, none⟩)) ∧ p < W.heap.size) ∧ p < w.heap.size := by
  obtain ⟨c0, c1, hp⟩ := h.cells
  obtain ⟨own, vs, vw, h1, _, _⟩ := h
  exact ⟨_, _, fun W hW => ⟨h1.desk.below hW, h1.ref.below hW, (hW.cell (p := ⟨p, 0, none⟩) hp).trans c0, (hW.cell (p := ⟨p, 1, none⟩) hp).trans c1, Nat.lt_of_lt_of_le hp hW.size⟩, hp⟩

set_option maxHeartbeats 2000000 in
set_option maxRecDepth 100000 in
theorem lends_any (p pd pr : Nat) (a b c : Int) (s : ByteArray) (vl : Value) (D : Dk) (M : List Le) (w0 w : World) (h : LwSt w0 w p pd pr D D M) (hd : LInv D) (hx : ∀ i, i < M.length → (M.getD i Le.none).xs.length ≤ 1099511627776) :
    Calls Tryz.prog 16 #[.pointer (some ⟨p, 0, none⟩), opVal 6 a b c s vl] w fun e w' => e = .returned (.bool true) ∧ StepPost w0 p pd pr M w' := by
  obtain ⟨F, G, hT, hpw⟩ := h.tell
  have b0 : (w.alloc (opBlk 6 a b c s vl)).drew.heap[w.heap.size]? = some (opBlk 6 a b c s vl) := heap_alloc_new w _
  have k0 : Below w.heap.size w (w.alloc (opBlk 6 a b c s vl)).drew := below_drewn (below_new_al _)
  obtain ⟨hdk, _, c0, _, hpz⟩ := hT _ k0
  have HF := hid (endsT pd a D _ hdk hd)
  have HR2 := hid (fun (W : World) (hW : Below w.heap.size w W) => rendsT pr a D W (hT W hW).2.1)
  have HT1 : Hid (∀ W, Below w.heap.size w W → W.cell? ⟨p, 0, none⟩ = some (.pointer (some ⟨pd, 0, none⟩)) ∧ W.cell? ⟨p, 1, none⟩ = some (.pointer (some ⟨pr, 0, none⟩)) ∧ p < W.heap.size) := fun W hW => (hT W hW).2.2
  have HNU := hid (fun (v : Int) (W : World) => lnum_any v W)
  have HPO : Hid (∀ W, Below w.heap.size w W → StepPost w0 p pd pr M W) := fun W hW => StepPost.same (h.below hW) hd hx
  obtain ⟨q0, q1, q2, q3, q4, q5⟩ := blk6 b0
  have HB0 := hid b0
  have HK0 := hid k0
  have hqz := lt_of_blk' b0
  have hS0 : (w.alloc (opBlk 6 a b c s vl)).drew.cell? ⟨p, 0, none⟩ = some (.pointer (some ⟨pd, 0, none⟩)) ∧ (w.alloc (opBlk 6 a b c s vl)).drew.cell? ⟨w.heap.size, 1, none⟩ = some (.int .i64 a) := ⟨c0, q1⟩
  have c0' : (w.alloc (opBlk 6 a b c s vl)).cell? ⟨p, 0, none⟩ = some (.pointer (some ⟨pd, 0, none⟩)) := c0
  have hpz' : p < (w.alloc (opBlk 6 a b c s vl)).heap.size := hpz
  generalize (endsA D a).1 = x1 at *
  generalize (endsA D a).2.1 = x2 at *
  generalize (endsA D a).2.2 = x3 at *
  have hb1 : (x1 == x1) = true := by simp
  have hb2 : (x2 == x2) = true := by simp
  have hb3 : (x3 == x3) = true := by simp
  clear h hT hdk hd hx b0 k0 c0 hpz q1 q2 q3 q4 q5
  go_enter Tryz.func16, Tryz.ntmps16
  go_wp2_with fail
  go_region_held3 (fun w' => w'.cell? ⟨p, 0, none⟩ = some (.pointer (some ⟨pd, 0, none⟩)) ∧ w'.cell? ⟨w.heap.size, 1, none⟩ = some (.int .i64 a)) (first | with_reducible exact hS0 | with_reducible exact hS3 | go_keep) (first | (go_at_call 39; refine HF.out.mono ?_; rintro e w1 ⟨rfl, hbb1⟩; have k1 := HK0.out.trans (hbb1.mono HK0.out.size); have b1 := (hbb1.block _ hqz).trans HB0.out; have hS3 : w1.cell? ⟨p, 0, none⟩ = some (.pointer (some ⟨pd, 0, none⟩)) ∧ w1.cell? ⟨w.heap.size, 1, none⟩ = some (.int .i64 a) := ⟨(HT1.out w1 k1).1, (blk6 b1).2.1⟩))
  have HK1 := hid (below_drewn k1)
  have HB1 : Hid (w1.drew.heap[w.heap.size]? = some (opBlk 6 a b c s vl)) := b1
  obtain ⟨d0, d1, hpz1⟩ := HT1.out w1 k1
  obtain ⟨y0, y1, y2, y3, y4, y5⟩ := blk6 b1
  have hqz1 := lt_of_blk' b1
  have hS0' : w1.drew.cell? ⟨p, 1, none⟩ = some (.pointer (some ⟨pr, 0, none⟩)) ∧ w1.drew.cell? ⟨w.heap.size, 1, none⟩ = some (.int .i64 a) := ⟨d1, y1⟩
  have HF2 := hid (HR2.out _ HK1.out)
  clear hS0 hS3 k1 b1 hbb1 HF HB0 y1 y2 y3 y4 y5 d0 q0 c0' hpz' HR2 HK0 hqz
  go_wp2_with fail
  go_region_held3 (fun w' => w'.cell? ⟨p, 1, none⟩ = some (.pointer (some ⟨pr, 0, none⟩)) ∧ w'.cell? ⟨w.heap.size, 1, none⟩ = some (.int .i64 a)) (first | with_reducible exact hS0' | with_reducible exact hS4 | go_keep) (first | (go_at_call 40; refine HF2.out.mono ?_; rintro e w2 ⟨rfl, hbb2⟩; have k2 := HK1.out.trans (hbb2.mono HK1.out.size); have b2 := (hbb2.block _ hqz1).trans HB1.out; have hS4 : w2.cell? ⟨p, 1, none⟩ = some (.pointer (some ⟨pr, 0, none⟩)) ∧ w2.cell? ⟨w.heap.size, 1, none⟩ = some (.int .i64 a) := ⟨(HT1.out w2 k2).2.1, (blk6 b2).2.1⟩))
  have HFIN := hid (HPO.out w2 k2)
  clear k2 b2 hbb2 hS4 hS0' HF2 HK1 HB1
  go_wp2_with (go_at_call 11; refine (HNU.out _ _).mono ?_; rintro e w' ⟨rfl, hw⟩; obtain rfl := hw.symm)
  go_ret
  exact ⟨rfl, HFIN.out⟩

end Go.Proofs.YtklicjbpjigfdabGreat

/- DERIVED. One step on both desks: Size. -/
namespace Go.Proofs.YtklicjbpjigfdabGreat
open Go.RowKit
attribute [local go_sem ↓] Go.wp_at_zero Go.wp_at_succ

theorem cell_set4 {w : World} {p b j : Nat} (h : b ≠ p) (z0 z1 z2 z3 : Value) : ((((w.setCell ⟨p, 0, none⟩ z0).setCell ⟨p, 1, none⟩ z1).setCell ⟨p, 2, none⟩ z2).setCell ⟨p, 3, none⟩ z3).cell? ⟨b, j, none⟩ = w.cell? ⟨b, j, none⟩ := World.cell?_of_block (set4_other _ _ _ _ h)
theorem set4_blk {w : World} {p : Nat} {a b c d : Value} {t : TypeId} (h : w.heap[p]? = some (.cells #[a, b, c, d] t (0, 0))) (z0 z1 z2 z3 : Value) : ((((w.setCell ⟨p, 0, none⟩ z0).setCell ⟨p, 1, none⟩ z1).setCell ⟨p, 2, none⟩ z2).setCell ⟨p, 3, none⟩ z3).heap[p]? = some (.cells #[z0, z1, z2, z3] t (0, 0)) := by
  have h0 := blk_set (i := 0) z0 h
  have h1 := blk_set (i := 1) z1 h0
  have h2 := blk_set (i := 2) z2 h1
  have h3 := blk_set (i := 3) z3 h2
  simpa using h3

/-- What Size answers. -/
def sizeA (D : Dk) (A : Int) : Int × Int × Int × Int × Int := if hasB A D.sks.length then (((D.sks.getD A.toNat Hd.none).sk.k : Int), (wsum (D.sks.getD A.toNat Hd.none).sk.lv : Int), (nsum (D.sks.getD A.toNat Hd.none).sk.lv : Int), ((D.sks.getD A.toNat Hd.none).sk.lv.length : Int), 0) else (0, 0, 0, 0, 4)
theorem sizeT {F : Nat → Prop} (d : Nat) (A : Int) (D : Dk) (w : World) (h : DeskAt F w d D) (hd : LInv D) :
    Calls Tryz.prog 37 #[.pointer (some ⟨d, 0, none⟩), .int .i64 A] w fun e w' => e = .returned (.tuple #[.agg #[.int .i64 (sizeA D A).1, .int .i64 (sizeA D A).2.1, .int .i64 (sizeA D A).2.2.1, .int .i64 (sizeA D A).2.2.2.1], .int .i64 (sizeA D A).2.2.2.2]) ∧ Below w.heap.size w w' := by
  cases hs : hasB A D.sks.length with
  | false =>
    have e9 : sizeA D A = (0, 0, 0, 0, 4) := by unfold sizeA; rw [hs]; rfl
    rw [e9]
    exact deskSize_no d D A w h hs
  | true =>
    obtain ⟨i, rfl, hi⟩ := hasB_at hs
    refine (deskSize d D i w h hi (hd.inv.sk i hi).ok).mono (fun e w' ⟨he, hb⟩ => ⟨?_, hb⟩)
    rw [he]
    unfold sizeA
    rw [hs, Int.toNat_natCast, if_pos rfl]
theorem rsizeT {G : Nat → Prop} (d : Nat) (A : Int) (D : Dk) (w : World) (h : RAt G w d D) (hd : LInv D) :
    Calls Tryz.prog 38 #[.pointer (some ⟨d, 0, none⟩), .int .i64 A] w fun e w' => e = .returned (.tuple #[.agg #[.int .i64 (sizeA D A).1, .int .i64 (sizeA D A).2.1, .int .i64 (sizeA D A).2.2.1, .int .i64 (sizeA D A).2.2.2.1], .int .i64 (sizeA D A).2.2.2.2]) ∧ Below w.heap.size w w' := by
  cases hs : hasB A D.sks.length with
  | false =>
    have e9 : sizeA D A = (0, 0, 0, 0, 4) := by unfold sizeA; rw [hs]; rfl
    rw [e9]
    exact rsize_no d A D w h hs
  | true =>
    obtain ⟨i, rfl, hi⟩ := hasB_at hs
    refine (rsize_any d i D w h hd hi).mono (fun e w' ⟨he, hb⟩ => ⟨?_, hb⟩)
    rw [he]
    unfold sizeA
    rw [hs, Int.toNat_natCast, if_pos rfl]

set_option maxHeartbeats 4000000 in
set_option maxRecDepth 100000 in
theorem lsize_any (p pd pr : Nat) (a b c : Int) (s : ByteArray) (vl : Value) (D : Dk) (M : List Le) (w0 w : World) (h : LwSt w0 w p pd pr D D M) (hd : LInv D) (hx : ∀ i, i < M.length → (M.getD i Le.none).xs.length ≤ 1099511627776) :
    Calls Tryz.prog 16 #[.pointer (some ⟨p, 0, none⟩), opVal 5 a b c s vl] w fun e w' => e = .returned (.bool true) ∧ StepPost w0 p pd pr M w' := by
  obtain ⟨F, G, hT, hpw⟩ := h.tell
  have b0 : (w.alloc (opBlk 5 a b c s vl)).heap[w.heap.size]? = some (opBlk 5 a b c s vl) := heap_alloc_new w _
  have k0 : Below w.heap.size w (w.alloc (opBlk 5 a b c s vl)) := below_new_al _
  have HF := hid (fun (W : World) (hW : Below w.heap.size w W) => sizeT pd a D W (hT W hW).1 hd)
  have HR2 := hid (fun (W : World) (hW : Below w.heap.size w W) => rsizeT pr a D W (hT W hW).2.1 hd)
  have HT1 : Hid (∀ W, Below w.heap.size w W → W.cell? ⟨p, 0, none⟩ = some (.pointer (some ⟨pd, 0, none⟩)) ∧ W.cell? ⟨p, 1, none⟩ = some (.pointer (some ⟨pr, 0, none⟩)) ∧ p < W.heap.size) := fun W hW => (hT W hW).2.2
  have HNU := hid (fun (v : Int) (W : World) => lnum_any v W)
  have HPO : Hid (∀ W, Below w.heap.size w W → StepPost w0 p pd pr M W) := fun W hW => StepPost.same (h.below hW) hd hx
  obtain ⟨c0, _, hpA⟩ := HT1.out _ k0
  obtain ⟨q0, q1, q2, q3, q4, q5⟩ := blk6 b0
  have HB0 := hid b0
  have HK0 := hid k0
  have hqA := lt_of_blk' b0
  generalize (sizeA D a).1 = x1 at *
  generalize (sizeA D a).2.1 = x2 at *
  generalize (sizeA D a).2.2.1 = x3 at *
  generalize (sizeA D a).2.2.2.1 = x4 at *
  generalize (sizeA D a).2.2.2.2 = x5 at *
  have hb1 : (x1 == x1) = true := by simp
  have hb2 : (x2 == x2) = true := by simp
  have hb3 : (x3 == x3) = true := by simp
  have hb4 : (x4 == x4) = true := by simp
  have hb5 : (x5 == x5) = true := by simp
  clear h hT hd hx b0 k0 q2 q3 q4 q5
  go_enter Tryz.func16, Tryz.ntmps16
  go_upto_region 2 with fail
  generalize hwA : w.alloc (opBlk 5 a b c s vl) = wA at *
  clear hwA
  have hS0 : wA.drew.cell? ⟨p, 0, none⟩ = some (.pointer (some ⟨pd, 0, none⟩)) ∧ wA.drew.cell? ⟨w.heap.size, 1, none⟩ = some (.int .i64 a) := ⟨c0, q1⟩
  have hS1 : ∀ o : Obj, (wA.alloc o).drew.cell? ⟨p, 0, none⟩ = some (.pointer (some ⟨pd, 0, none⟩)) ∧ (wA.alloc o).drew.cell? ⟨w.heap.size, 1, none⟩ = some (.int .i64 a) := fun o => ⟨(cell_al hpA o).trans c0, (cell_al hqA o).trans q1⟩
  have HKK : Hid (∀ w3 : World, wA.heap.size ≤ w3.heap.size → (w3.cell? ⟨p, 0, none⟩ = some (.pointer (some ⟨pd, 0, none⟩)) ∧ w3.cell? ⟨w.heap.size, 1, none⟩ = some (.int .i64 a)) → (∀ o : Obj, (w3.alloc o).cell? ⟨p, 0, none⟩ = some (.pointer (some ⟨pd, 0, none⟩)) ∧ (w3.alloc o).cell? ⟨w.heap.size, 1, none⟩ = some (.int .i64 a)) ∧ (∀ z0 z1 z2 z3 : Value, ((((w3.setCell ⟨wA.heap.size, 0, none⟩ z0).setCell ⟨wA.heap.size, 1, none⟩ z1).setCell ⟨wA.heap.size, 2, none⟩ z2).setCell ⟨wA.heap.size, 3, none⟩ z3).cell? ⟨p, 0, none⟩ = some (.pointer (some ⟨pd, 0, none⟩)) ∧ ((((w3.setCell ⟨wA.heap.size, 0, none⟩ z0).setCell ⟨wA.heap.size, 1, none⟩ z1).setCell ⟨wA.heap.size, 2, none⟩ z2).setCell ⟨wA.heap.size, 3, none⟩ z3).cell? ⟨w.heap.size, 1, none⟩ = some (.int .i64 a))) := fun w3 h3 hS =>
    ⟨fun o => ⟨(cell_al (Nat.lt_of_lt_of_le hpA h3) o).trans hS.1, (cell_al (Nat.lt_of_lt_of_le hqA h3) o).trans hS.2⟩, fun z0 z1 z2 z3 => ⟨(cell_set4 (Nat.ne_of_lt hpA) z0 z1 z2 z3).trans hS.1, (cell_set4 (Nat.ne_of_lt hqA) z0 z1 z2 z3).trans hS.2⟩⟩
  have HW9 : Hid (∀ W, Below wA.heap.size wA W → Calls Tryz.prog 37 #[.pointer (some ⟨pd, 0, none⟩), .int .i64 a] W fun e w3 => e = .returned (.tuple #[.agg #[.int .i64 x1, .int .i64 x2, .int .i64 x3, .int .i64 x4], .int .i64 x5]) ∧ Hid (Below W.heap.size W w3 ∧ Below wA.heap.size wA w3) ∧ wA.heap.size ≤ w3.heap.size ∧ w3.cell? ⟨p, 0, none⟩ = some (.pointer (some ⟨pd, 0, none⟩)) ∧ w3.cell? ⟨w.heap.size, 1, none⟩ = some (.int .i64 a)) := fun W hW => by
    refine (HF.out W (HK0.out.trans (hW.mono HK0.out.size))).mono ?_
    rintro e w3 ⟨rfl, hb3'⟩
    have hB3 := hW.trans (hb3'.mono hW.size)
    exact ⟨rfl, ⟨hb3', hB3⟩, hB3.size, (hB3.cell (p := ⟨p, 0, none⟩) hpA).trans c0, (hB3.cell (p := ⟨w.heap.size, 1, none⟩) hqA).trans q1⟩
  go_cut [5, 6] from 15 (fun s1 s2 we => ∃ q, s1 = .pointer (some ⟨q, 0, none⟩) ∧ s2 = .int .i64 x5 ∧ we.heap[q]? = some (.cells #[.int .i64 x1, .int .i64 x2, .int .i64 x3, .int .i64 x4] 81 (0, 0)) ∧ Below wA.heap.size wA we)
  case first =>
    go_region_held3 (fun w' => w'.cell? ⟨p, 0, none⟩ = some (.pointer (some ⟨pd, 0, none⟩)) ∧ w'.cell? ⟨w.heap.size, 1, none⟩ = some (.int .i64 a)) (first | with_reducible exact hS3 | with_reducible exact hSB _ | with_reducible exact hSA _ _ _ _ | with_reducible exact hS0 | with_reducible exact hS1 _ | go_keep) (first | (go_at_call 37; refine Calls.mono (HW9.out _ ?_) ?_; exact ⟨rfl, rfl, rfl, (by simp), fun b hb => (by first | exact Below.heap_alloc wA _ b hb | rfl)⟩; rintro e w3 ⟨rfl, HG3, hz3, hS3⟩; obtain ⟨hSB, hSA⟩ := HKK.out w3 hz3 hS3; try (have hzz := (HG3.out.1.block wA.heap.size (by simp)).trans (heap_alloc_new wA _); have HZZ : Hid (w3.heap[wA.heap.size]? = some (.cells #[.int .i64 0, .int .i64 0, .int .i64 0, .int .i64 0] 81 (0, 0))) := hzz; obtain ⟨z0, z1, z2, z3, zz⟩ := blk4 hzz; have hzl := lt_of_blk' hzz; clear hzz)))
    · have HE := hid (heap_alloc_new w3 (.cells #[.int .i64 x1, .int .i64 x2, .int .i64 x3, .int .i64 x4] 81 (0, 0)))
      have HE2 := hid (HG3.out.2.alloc hz3 (.cells #[.int .i64 x1, .int .i64 x2, .int .i64 x3, .int .i64 x4] 81 (0, 0)))
      clear HG3 hS3 hSB hSA HKK hS0 hS1
      go_wp2_with fail
      go_meet
      exact ⟨w3.heap.size, rfl, rfl, HE.out, HE2.out⟩
    · have HE := hid (set4_blk HZZ.out (.int .i64 x1) (.int .i64 x2) (.int .i64 x3) (.int .i64 x4))
      have HE2 := hid (below_set4 HG3.out.2 (Nat.le_refl _) (.int .i64 x1) (.int .i64 x2) (.int .i64 x3) (.int .i64 x4))
      clear HG3 hS3 hSB hSA HKK hS0 hS1 HZZ z0 z1 z2 z3 zz
      go_wp2_with fail
      go_meet
      exact ⟨wA.heap.size, rfl, rfl, HE.out, HE2.out⟩
  case rest =>
  obtain ⟨qs, rfl, rfl, hq1, hbB⟩ := hcut
  have HQ1 := hid hq1
  have HKB := hid (HK0.out.trans (hbB.mono HK0.out.size))
  have b1 := (hbB.block _ hqA).trans HB0.out
  clear hS0 hS1 HKK HW9 c0 q0 q1 hpA hqA HB0 HF hbB hq1
  obtain ⟨_, c1, hpA⟩ := HT1.out _ HKB.out
  obtain ⟨q0, q1, q2, q3, q4, q5⟩ := blk6 b1
  have hqA := lt_of_blk' b1
  clear b1 q2 q3 q4 q5 HK0
  have HK0 := HKB
  go_upto_region 3 with fail
  generalize hwB : wc = wB at *
  clear hwB
  have hS0 : wB.drew.cell? ⟨p, 1, none⟩ = some (.pointer (some ⟨pr, 0, none⟩)) ∧ wB.drew.cell? ⟨w.heap.size, 1, none⟩ = some (.int .i64 a) := ⟨c1, q1⟩
  have hS1 : ∀ o : Obj, (wB.alloc o).drew.cell? ⟨p, 1, none⟩ = some (.pointer (some ⟨pr, 0, none⟩)) ∧ (wB.alloc o).drew.cell? ⟨w.heap.size, 1, none⟩ = some (.int .i64 a) := fun o => ⟨(cell_al hpA o).trans c1, (cell_al hqA o).trans q1⟩
  have HKK : Hid (∀ w3 : World, wB.heap.size ≤ w3.heap.size → (w3.cell? ⟨p, 1, none⟩ = some (.pointer (some ⟨pr, 0, none⟩)) ∧ w3.cell? ⟨w.heap.size, 1, none⟩ = some (.int .i64 a)) → (∀ o : Obj, (w3.alloc o).cell? ⟨p, 1, none⟩ = some (.pointer (some ⟨pr, 0, none⟩)) ∧ (w3.alloc o).cell? ⟨w.heap.size, 1, none⟩ = some (.int .i64 a)) ∧ (∀ z0 z1 z2 z3 : Value, ((((w3.setCell ⟨wB.heap.size, 0, none⟩ z0).setCell ⟨wB.heap.size, 1, none⟩ z1).setCell ⟨wB.heap.size, 2, none⟩ z2).setCell ⟨wB.heap.size, 3, none⟩ z3).cell? ⟨p, 1, none⟩ = some (.pointer (some ⟨pr, 0, none⟩)) ∧ ((((w3.setCell ⟨wB.heap.size, 0, none⟩ z0).setCell ⟨wB.heap.size, 1, none⟩ z1).setCell ⟨wB.heap.size, 2, none⟩ z2).setCell ⟨wB.heap.size, 3, none⟩ z3).cell? ⟨w.heap.size, 1, none⟩ = some (.int .i64 a))) := fun w3 h3 hS =>
    ⟨fun o => ⟨(cell_al (Nat.lt_of_lt_of_le hpA h3) o).trans hS.1, (cell_al (Nat.lt_of_lt_of_le hqA h3) o).trans hS.2⟩, fun z0 z1 z2 z3 => ⟨(cell_set4 (Nat.ne_of_lt hpA) z0 z1 z2 z3).trans hS.1, (cell_set4 (Nat.ne_of_lt hqA) z0 z1 z2 z3).trans hS.2⟩⟩
  have HW9 : Hid (∀ W, Below wB.heap.size wB W → Calls Tryz.prog 38 #[.pointer (some ⟨pr, 0, none⟩), .int .i64 a] W fun e w3 => e = .returned (.tuple #[.agg #[.int .i64 x1, .int .i64 x2, .int .i64 x3, .int .i64 x4], .int .i64 x5]) ∧ Hid (Below W.heap.size W w3 ∧ Below wB.heap.size wB w3) ∧ wB.heap.size ≤ w3.heap.size ∧ w3.cell? ⟨p, 1, none⟩ = some (.pointer (some ⟨pr, 0, none⟩)) ∧ w3.cell? ⟨w.heap.size, 1, none⟩ = some (.int .i64 a)) := fun W hW => by
    refine (HR2.out W (HK0.out.trans (hW.mono HK0.out.size))).mono ?_
    rintro e w3 ⟨rfl, hb3'⟩
    have hB3 := hW.trans (hb3'.mono hW.size)
    exact ⟨rfl, ⟨hb3', hB3⟩, hB3.size, (hB3.cell (p := ⟨p, 1, none⟩) hpA).trans c1, (hB3.cell (p := ⟨w.heap.size, 1, none⟩) hqA).trans q1⟩
  go_cut [7, 8] from 15 (fun s1 s2 we => ∃ q, s1 = .pointer (some ⟨q, 0, none⟩) ∧ s2 = .int .i64 x5 ∧ we.heap[q]? = some (.cells #[.int .i64 x1, .int .i64 x2, .int .i64 x3, .int .i64 x4] 84 (0, 0)) ∧ Below wB.heap.size wB we)
  case first =>
    go_region_held3 (fun w' => w'.cell? ⟨p, 1, none⟩ = some (.pointer (some ⟨pr, 0, none⟩)) ∧ w'.cell? ⟨w.heap.size, 1, none⟩ = some (.int .i64 a)) (first | with_reducible exact hS3 | with_reducible exact hSB _ | with_reducible exact hSA _ _ _ _ | with_reducible exact hS0 | with_reducible exact hS1 _ | go_keep) (first | (go_at_call 38; refine Calls.mono (HW9.out _ ?_) ?_; exact ⟨rfl, rfl, rfl, (by simp), fun b hb => (by first | exact Below.heap_alloc wB _ b hb | rfl)⟩; rintro e w3 ⟨rfl, HG3, hz3, hS3⟩; obtain ⟨hSB, hSA⟩ := HKK.out w3 hz3 hS3; try (have hzz := (HG3.out.1.block wB.heap.size (by simp)).trans (heap_alloc_new wB _); have HZZ : Hid (w3.heap[wB.heap.size]? = some (.cells #[.int .i64 0, .int .i64 0, .int .i64 0, .int .i64 0] 84 (0, 0))) := hzz; obtain ⟨z0, z1, z2, z3, zz⟩ := blk4 hzz; have hzl := lt_of_blk' hzz; clear hzz)))
    · have HE := hid (heap_alloc_new w3 (.cells #[.int .i64 x1, .int .i64 x2, .int .i64 x3, .int .i64 x4] 84 (0, 0)))
      have HE2 := hid (HG3.out.2.alloc hz3 (.cells #[.int .i64 x1, .int .i64 x2, .int .i64 x3, .int .i64 x4] 84 (0, 0)))
      clear HG3 hS3 hSB hSA HKK hS0 hS1
      go_wp2_with fail
      go_meet
      exact ⟨w3.heap.size, rfl, rfl, HE.out, HE2.out⟩
    · have HE := hid (set4_blk HZZ.out (.int .i64 x1) (.int .i64 x2) (.int .i64 x3) (.int .i64 x4))
      have HE2 := hid (below_set4 HG3.out.2 (Nat.le_refl _) (.int .i64 x1) (.int .i64 x2) (.int .i64 x3) (.int .i64 x4))
      clear HG3 hS3 hSB hSA HKK hS0 hS1 HZZ z0 z1 z2 z3 zz
      go_wp2_with fail
      go_meet
      exact ⟨wB.heap.size, rfl, rfl, HE.out, HE2.out⟩
  case rest =>
  obtain ⟨qt, rfl, rfl, hq2, hbC⟩ := hcut
  have hq1 := (hbC.block _ (lt_of_blk' HQ1.out)).trans HQ1.out
  have HFIN := hid (HPO.out _ (HK0.out.trans (hbC.mono HK0.out.size)))
  obtain ⟨s0, s1, s2, s3, sz⟩ := blk4 hq1
  obtain ⟨t0, t1, t2, t3, tz⟩ := blk4 hq2
  have hz1 := lt_of_blk' hq1
  have hz2 := lt_of_blk' hq2
  clear hS0 hS1 HKK HW9 c1 q0 q1 hpA hqA HQ1 HR2 hbC hq1 hq2 HPO HT1
  go_wp2_with (go_at_call 11; refine (HNU.out _ _).mono ?_; rintro e w' ⟨rfl, hw⟩; obtain rfl := hw.symm)
  go_ret
  exact ⟨rfl, HFIN.out⟩

end Go.Proofs.YtklicjbpjigfdabGreat

/- DERIVED. The program's Ledger: its list has no spare room. -/
namespace Go.Proofs.YtklicjbpjigfdabGreat
open Go.RowKit
attribute [local go_sem ↓] Go.wp_at_zero Go.wp_at_succ
variable {F : Nat → Prop}

set_option maxHeartbeats 1000000 in
set_option maxRecDepth 100000 in
theorem ledger_full (k g cap : Nat) (lo hi : Int) (vs : List Value) (L : List Lvl) (w : World) (hL : LvAt F w g cap vs L) (hlen : L.length ≤ 30) (hbd : ssum L ≤ 1152921504606846976) :
    Calls Tryz.prog 72 #[skVal k g L.length cap lo hi] w fun e w' => ∃ gt, e = .returned (.agg #[.slice (some ⟨gt, 0, none⟩) L.length L.length, .int .i64 (esum L : Int), .int .i64 (ssum L : Int)]) ∧ w.heap.size ≤ gt ∧ w'.ownsRow 0 3 1 (.slice (some ⟨gt, 0, none⟩) L.length L.length) L.length (ints (timesOf L)) ∧ Below w.heap.size w w' := by
  obtain ⟨i0, hi0, hz0, hz1, hz2⟩ := info_parts Tryz.infoInt
  have hel := esum_le L
  obtain ⟨n, hn⟩ : ∃ n, n = L.length := ⟨_, rfl⟩
  have HN : Hid (n = L.length) := hn
  rw [← hn] at hlen ⊢
  clear hn
  go_enter Tryz.func72, Tryz.ntmps72
  go_wp2_with (at_make; refine wpList_make_own _ rfl _ _ 28 rfl (w.heap.size + 1 + 1) 3 i0 (.int .i64 0) 1 Tryz.underlying28 hi0 hz0 hz1 _ _ _ n rfl rfl (by omega) (by rw [hz2]; omega) (by unfold maxLen; omega) (by simp) ?_; intro w1 hown1 hgrow1; have hk0 := grown_new2 hgrow1 (by simp); have hk1 := grown_new2' hgrow1 (by simp); obtain ⟨c0, c1, c2, c3, cz⟩ := blk4 hk0; have hw1z := hgrow1.size; simp at hw1z hown1; have hzz : w.heap.size < w1.heap.size := by { omega }; have HK0 := hid hk0; have HK1 := hid hk1; have HO1 := hid hown1; have HG1 := hid hgrow1; clear hk0 hk1 hown1 hgrow1)
  have HB1 : Hid (Below w.heap.size w w1) := (((Below.refl _ _).alloc (Nat.le_refl _) _).alloc (by simp) _).grown HG1.out (by simp; omega) (fun k h => by cases h)
  have HL1 := hid (hL.below HB1.out)
  have hgt : w.heap.size + 1 + 1 < w1.heap.size := ownsRow_lt HO1.out rfl
  generalize hbl : w1.heap.size = bl at *
  have HBL := hid hbl
  clear hbl c0 c1 c2 c3 cz
  go_loopw [4, 15] (fun sp si wr => ∃ (j c1 c2 : Nat), j ≤ n ∧ si = .int .i64 j ∧ sp = .int .i64 ((2 ^ j : Nat) : Int) ∧ Hid (c1 + 2 ^ j * esum (L.drop j) = esum L) ∧ Hid (c2 + 2 ^ j * 2 ^ j * ssum (L.drop j) = ssum L) ∧
      Hid (wr.heap[bl]? = some (.cells #[.slice (some ⟨w.heap.size + 1 + 1, 0, none⟩) j n, .int .i64 (c1 : Int), .int .i64 (c2 : Int)] 97 (0, 0))) ∧
      Hid (wr.ownsRow (w.heap.size + 1 + 1) 3 1 (.slice (some ⟨w.heap.size + 1 + 1, 0, none⟩) j n) j (ints (timesOf (L.take j)))) ∧ Hid (Below (w.heap.size + 1 + 1) w1 wr)) (fun _ si _ => n - (intOf si).toNat)
  case atStart =>
    refine ⟨0, 0, 0, Nat.zero_le _, rfl, rfl, by simp [Hid], by simp [Hid], ?_, HO1.out.alloc _, (Below.refl _ _).alloc (by rw [HBL.out]; exact hw1z) _⟩
    have := heap_alloc_new w1 (.cells #[.slice (some ⟨w.heap.size + 1 + 1, 0, none⟩) 0 n, .int .i64 0, .int .i64 0] 97 (0, 0))
    rw [HBL.out] at this
    exact this
  case round =>
    obtain ⟨j, c1, c2, hj, rfl, rfl, Hc1, Hc2, Hbl, Hown, Hbel⟩ := hrel
    obtain ⟨f0, f1, f2, fz⟩ := blk3 Hbl.out
    by_cases hlt : j < n
    · have hlt' : j < L.length := by rw [← HN.out]; exact hlt
      have hLr : LvAt F wr g cap vs L := by
        have hb : Below w.heap.size w wr := HB1.out.trans (Hbel.out.mono (by omega))
        exact hL.below hb
      obtain ⟨ao, cc, ev⟩ := hLr.itemsForm hlt'
      have g0 : wr.cell? ⟨g, j * 2, none⟩ = some (.slice ao (L.getD j Lvl.none).items.length cc) := (hLr.cell0 hlt').trans (by rw [ev])
      have g1 : wr.cell? ⟨g, j * 2 + 1, none⟩ = some (.int .i64 ((L.getD j Lvl.none).times : Int)) := hLr.cell1 hlt'
      have HS1 : Hid ((c1 + 2 ^ j * (L.getD j Lvl.none).times) + (2 ^ j * 2) * esum (L.drop (j + 1)) = esum L) := estep hlt' Hc1.out
      have HS2 : Hid ((c2 + 2 ^ j * 2 ^ j * (L.getD j Lvl.none).times) + ((2 ^ j * 2) * (2 ^ j * 2)) * ssum (L.drop (j + 1)) = ssum L) := sstep hlt' Hc2.out
      have HTI : Hid (timesOf (L.take (j + 1)) = timesOf (L.take j) ++ [((L.getD j Lvl.none).times : Int)]) := timesOf_step hlt'
      have HP : Hid (2 ^ (j + 1) = 2 ^ j * 2) := Nat.pow_succ ..
      have b2 := pow2_bd (j := j) (by omega)
      have hgw := hLr.lt
      have hgne : g < bl := by have := hL.lt; omega
      have hblw : bl < wr.heap.size := lt_of_blk' Hbl.out
      generalize (L.getD j Lvl.none).items.length = m at *
      generalize (L.getD j Lvl.none).times = tm at *
      generalize 2 ^ j = p at *
      have m1 : (c1 : Int) + (tm : Int) * (p : Int) ≤ 1152921504606846976 := by
        have := HS1.out
        rw [← Int.natCast_mul, Nat.mul_comm tm p]
        generalize p * tm = q1 at *
        omega
      have m2 : (c2 : Int) + (tm : Int) * (p : Int) * (p : Int) ≤ 1152921504606846976 := by
        have := HS2.out
        rw [← Int.natCast_mul, ← Int.natCast_mul, show tm * p * p = p * p * tm by rw [Nat.mul_assoc, Nat.mul_comm]]
        generalize p * p * tm = q2 at *
        omega
      have m3 : 0 ≤ (tm : Int) * (p : Int) := mul_nn _ _
      have m4 : 0 ≤ (tm : Int) * (p : Int) * (p : Int) := by rw [← Int.natCast_mul]; exact mul_nn _ _
      clear ev hLr
      go_wp2_with (at_builtin; refine wpList_append_fits _ rfl (.tmp 20) (.tmp 23) 28 rfl (w.heap.size + 1 + 1) 3 i0 1 Tryz.underlying28 hi0 hz1 (w.heap.size + 1 + 1) j n _ rfl ((Hown.out.alloc _).alloc _) ⟨wr.heap.size + 1, 0, none⟩ 1 1 [.int .i64 (tm : Int)] rfl rfl (one_new' (by simp) _ _) (one_cell _ _) (by omega) ?_; intro w3 hown3 hgrow3; have k0 := grow_blk2 Hbl.out hgrow3 (by omega); obtain ⟨p0, p1, p2, pz⟩ := blk3 k0; have k1 := grown_new2 hgrow3 (by simp; omega); obtain ⟨q0, q1, qz⟩ := blk2 k1; have HK2 := hid k0; have HK3 := hid k1; have HO3 := hid hown3; have HG3 := hid hgrow3; clear k0 k1 hown3 hgrow3)
      go_roundw
      case rel =>
        refine ⟨j + 1, c1 + p * tm, c2 + p * p * tm, by omega, by go_num, by rw [HP.out]; go_num, by rw [HP.out]; exact HS1, by rw [HP.out]; exact HS2, ?_, ?_, ?_⟩
        · have h3 := blk_set (i := 2) (.int .i64 ((c2 : Int) + (tm : Int) * (p : Int) * (p : Int))) (blk_set (i := 1) (.int .i64 ((c1 : Int) + (tm : Int) * (p : Int))) (blk_set (i := 0) (.slice (some ⟨w.heap.size + 1 + 1, 0, none⟩) (j + 1) n) HK2.out))
          have e1 : ((c1 + p * tm : Nat) : Int) = (c1 : Int) + (tm : Int) * (p : Int) := by rw [Int.natCast_add, Int.natCast_mul, Int.mul_comm]
          have e2 : ((c2 + p * p * tm : Nat) : Int) = (c2 : Int) + (tm : Int) * (p : Int) * (p : Int) := by rw [Int.natCast_add, Int.natCast_mul, Int.natCast_mul, Int.mul_assoc, Int.mul_comm, Int.mul_comm (p : Int) (tm : Int)]
          rw [e1, e2]
          simpa [Hid] using h3
        · rw [HTI.out, ints_append]
          exact ownsRow_block HO3.out (fun b hb => by simp [Value.ownBlock] at hb; subst hb; exact set3_other _ _ _ (by omega))
        · refine below_set3 ?_ (by omega) _ _ _
          exact ((Hbel.out.alloc (by omega) _).alloc (by simp; omega) _).grown HG3.out (by simp; omega) (fun k hk => by cases hk; exact Nat.le_refl _)
      case measure => simp [intOf]; omega
    · have hjn : j = n := by omega
      subst hjn
      have HE1 : Hid (c1 = esum L) := by have := Hc1.out; rw [esum_end L j (by rw [← HN.out]; exact Nat.le_refl _)] at this; unfold Hid; omega
      have HE2 : Hid (c2 = ssum L) := by have := Hc2.out; rw [ssum_end L j (by rw [← HN.out]; exact Nat.le_refl _)] at this; unfold Hid; omega
      have HE3 : Hid (L.take j = L) := by unfold Hid; rw [HN.out]; simp
      have hr := (Hbel.out.block (w.heap.size + 1) (by omega)).trans HK1.out
      obtain ⟨r0, r1, r2, rz⟩ := blk3 hr
      have HR := hid hr
      clear hr
      go_wp2_with fail
      refine bodyPost_ret (v := .agg #[.slice (some ⟨w.heap.size + 1 + 1, 0, none⟩) j j, .int .i64 (c1 : Int), .int .i64 (c2 : Int)]) (by simp [results, Tryz.results72, go_sem, r0, r1, r2]) rfl ⟨w.heap.size + 1 + 1, ?_, by omega, ?_, ?_⟩
      · rw [HE1.out, HE2.out]
      · have ho := Hown.out
        rw [HE3.out] at ho
        exact ownsRow_block (ownsRow_base ho (Nat.zero_le _)) (fun b hb => by simp [Value.ownBlock] at hb; subst hb; exact set3_other _ _ _ (by omega))
      · exact below_set3 (HB1.out.trans (Hbel.out.mono (by omega))) (by omega) _ _ _

set_option maxHeartbeats 400000 in
set_option maxRecDepth 100000 in
theorem deskLedger_full (d : Nat) (D : Dk) (i : Nat) (w : World) (h : DeskAt F w d D) (hi : i < D.sks.length) (hok : (D.sks.getD i Hd.none).Ok) (hss : ssum (D.sks.getD i Hd.none).sk.lv ≤ 1152921504606846976) :
    Calls Tryz.prog 44 #[.pointer (some ⟨d, 0, none⟩), .int .i64 (i : Int)] w fun e w' => ∃ gt, e = .returned (.tuple #[.agg #[.slice (some ⟨gt, 0, none⟩) (D.sks.getD i Hd.none).sk.lv.length (D.sks.getD i Hd.none).sk.lv.length, .int .i64 (esum (D.sks.getD i Hd.none).sk.lv : Int), .int .i64 (ssum (D.sks.getD i Hd.none).sk.lv : Int)], .int .i64 0]) ∧ w.heap.size ≤ gt ∧ w'.ownsRow 0 3 1 (.slice (some ⟨gt, 0, none⟩) (D.sks.getD i Hd.none).sk.lv.length (D.sks.getD i Hd.none).sk.lv.length) (D.sks.getD i Hd.none).sk.lv.length (ints (timesOf (D.sks.getD i Hd.none).sk.lv)) ∧ Below w.heap.size w w' := by
  obtain ⟨vt, vk, rs, h⟩ := h
  have hdz := lt_of_blk' h.blk
  have hA := h.below ((Below.refl w.heap.size w).alloc (Nat.le_refl _) (.cells #[.slice none 0 0, .int .i64 0, .int .i64 0] 97))
  obtain ⟨g, c, rfl, hg, q0, q1, q2, q3, q4⟩ := hA.cells5 hi
  obtain ⟨_, _, c2, _⟩ := blk3 hA.blk
  have HH := hid (has_any d (i : Int) _ _ _ _ c2)
  rw [hasB_nat hi] at HH
  have HL := hid (ledger_full (D.sks.getD i Hd.none).sk.k _ _ (D.sks.getD i Hd.none).sk.lo (D.sks.getD i Hd.none).sk.hi _ _ _ (hA.lv i hi) (by have := hok.len; omega) hss)
  generalize (D.sks.getD i Hd.none).sk = sk at *
  generalize rs.getD i Ref.none = r at *
  generalize (D.sks.getD i Hd.none).sealed = sl at *
  have hwz : w.heap.size < (w.alloc (.cells #[.slice none 0 0, .int .i64 0, .int .i64 0] 97)).heap.size := by simp
  generalize D.sks.length = n at *
  have hblk := heap_alloc_new w (.cells #[.slice none 0 0, .int .i64 0, .int .i64 0] 97 (0, 0))
  have HBL := hid hblk
  clear hA h hok hblk
  go_enter Tryz.func44, Tryz.ntmps44
  go_wp2_with (first | (go_at_call 59; refine HH.out.mono ?_; rintro e w' ⟨rfl, rfl⟩) | (go_at_call 72; refine HL.out.mono ?_; rintro e w1 ⟨gt, rfl, hgt, hown1, hb1⟩; have hk := (hb1.block _ hwz).trans HBL.out; obtain ⟨e0, e1, e2, ez⟩ := blk3 hk; have HB1 := hid hb1; have HO1 := hid hown1; have HK := hid hk; simp at hgt; clear hb1 hk hown1))
  refine bodyPost_ret (v := .tuple #[.agg #[.slice (some ⟨gt, 0, none⟩) sk.lv.length sk.lv.length, .int .i64 (esum sk.lv : Int), .int .i64 (ssum sk.lv : Int)], .int .i64 0]) (by simp [results, Tryz.results44, go_sem, e0, e1, e2]) rfl ⟨gt, rfl, by omega, ?_, below_set3 (((Below.refl _ _).alloc (Nat.le_refl _) _).trans (HB1.out.mono (by simp))) (Nat.le_refl _) _ _ _⟩
  exact ownsRow_block HO1.out (fun b hb => by simp [Value.ownBlock] at hb; subst hb; exact set3_other _ _ _ (by omega))

end Go.Proofs.YtklicjbpjigfdabGreat
