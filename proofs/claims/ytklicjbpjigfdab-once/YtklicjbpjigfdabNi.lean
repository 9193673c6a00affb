/- DERIVED. The walk of a delivery. -/
import Derived.Test.YtklicjbpjigfdabNh
import Derived.Test.YtklicjbpjigfdabSameG
import Derived.Test.YtklicjbpjigfdabMv
import Derived.Test.YtklicjbpjigfdabMe
namespace Go.Proofs.Ytklicjbpjigfdab
open Go.RowKit
attribute [local go_sem ↓] Go.wp_at_zero Go.wp_at_succ
variable {K : Nat → Prop} {w0 : World}
variable {B : Bx} {p d : Nat} {ps : Nat → Nat} {W : Wd} {T : Nat → ByteArray} {a n : Nat} {tk : Nat → Bool} {w : World}

theorem BxSt.keeps (h : BxSt K w0 w B p d ps W T a n tk) : Keeps K w0 w := by
  obtain ⟨K1, w1, h1, h2, h3, h4⟩ := h
  have h5 := h1.keeps'
  exact ⟨h5.os.trans h4.os, h5.tape.trans h4.tape, h5.output.trans h4.output, Nat.le_trans h4.size h5.size, fun b hb => (h5.block b (h3 b hb)).trans (h4.block b hb)⟩
/-- What was made since is kept too. -/
theorem BxSt.fresh {w2 : World} (h : BxSt K w0 w B p d ps W T a n tk) (hb : Below w.heap.size w w2) : BxSt (fun b => K b ∨ (w.heap.size ≤ b ∧ b < w2.heap.size)) w2 w2 B p d ps W T a n tk ∧ Keeps K w0 w2 := by
  have hk9 := h.keeps
  obtain ⟨K1, w1, h1, h2, h3, h4⟩ := h
  have h5 := h1.keeps'
  have h2' := h2.keep h5
  obtain ⟨own, vs, vx, vw, h, h2K, hk⟩ := h1
  refine ⟨⟨fun b => K1 b ∨ (w.heap.size ≤ b ∧ b < w2.heap.size), w2, ⟨own, vs, vx, vw, h.below hb, fun b hb' => ?_, Keeps.refl _ _⟩, ?_, fun b hb' => hb'.imp (h3 b) id, Keeps.refl _ _⟩, hk9.below hb (fun b hb' => ?_)⟩
  · rcases hb' with hb' | hb'
    · exact ⟨(h2K b hb').1, Nat.lt_of_lt_of_le (Nat.lt_of_lt_of_le (h2K b hb').2 hk.size) hb.size⟩
    · refine ⟨?_, hb'.2⟩
      by_cases e : own b = 0
      · exact e
      · have := h.lt b e; omega
  · have h6 : BoxAt K1 w2 B p T a n tk := h2'.keep ⟨hb.os, hb.tape, hb.output, hb.size, fun b hb' => hb.block b (Nat.lt_of_lt_of_le (h2K b hb').2 hk.size)⟩
    exact ⟨h6.blk, h6.txt, h6.ltt, h6.snd, h6.seq, h6.tkn, .inl h6.kb, .inl h6.kt, .inl h6.ka, .inl h6.kn, .inl h6.kk⟩
  · have e1 := h4.size
    have e2 := (h2K b (h3 b hb')).2
    have e3 := h4.block b hb'
    by_cases hlt : b < w0.heap.size
    · exact hlt
    · have e4 : w0.heap[b]? = none := by simp; omega
      rw [e4] at e3
      simp at e3
      omega
theorem BxSt.back {K' : Nat → Prop} {w2 : World} (h : BxSt K' w2 w B p d ps W T a n tk) (hK : ∀ b, K b → K' b) (hk : Keeps K w0 w2) : BxSt K w0 w B p d ps W T a n tk := by
  obtain ⟨K1, w1, h1, h2, h3, h4⟩ := h
  exact ⟨K1, w1, h1, h2, fun b hb => h3 b (hK b hb), ⟨h4.os.trans hk.os, h4.tape.trans hk.tape, h4.output.trans hk.output, Nat.le_trans hk.size h4.size, fun b hb => (h4.block b (hK b hb)).trans (hk.block b hb)⟩⟩
theorem BxSt.desk (h : BxSt K w0 w B p d ps W T a n tk) : ∃ F, DeskAt F w d W.D := by
  obtain ⟨K1, w1, ⟨own, vs, vx, vw, h1, _⟩, _⟩ := h
  exact ⟨_, h1.desk⟩
/-- The statement's own pointers. -/
theorem BxSt.ptrs (h : BxSt K w0 w B p d ps W T a n tk) {r : Nat} (hr : r < 3) : ∃ gs cs0, w.cell? ⟨p, 1, none⟩ = some (.slice (some ⟨gs, 0, none⟩) 4 cs0) ∧ p < w.heap.size ∧ gs < w.heap.size ∧ w.cell? ⟨gs, 3, none⟩ = some (.pointer (some ⟨ps 3, 0, none⟩)) ∧ w.cell? ⟨gs, r, none⟩ = some (.pointer (some ⟨ps r, 0, none⟩)) ∧
    w.cell? ⟨ps 3, 2, none⟩ = some (.int .i64 ((W.sd 3).n : Int)) ∧ w.cell? ⟨ps r, 2, none⟩ = some (.int .i64 ((W.sd r).n : Int)) ∧ ps 3 < w.heap.size ∧ ps r < w.heap.size := by
  obtain ⟨K1, w1, ⟨own, vs, vx, vw, h1, _⟩, _⟩ := h
  obtain ⟨gs, cs0, evs, hptr⟩ := h1.ptr (i := 3) (by omega)
  obtain ⟨gs2, cs2, evs2, hptr2⟩ := h1.ptr (i := r) (by omega)
  rw [evs] at evs2
  cases evs2
  obtain ⟨c0, c1, _⟩ := blk7 h1.blk
  rw [evs] at c1
  have s3 := (h1.side 3 (by omega)).blk
  have sr := (h1.side r (by omega)).blk
  have hgs : gs < w.heap.size := ownsRow_lt h1.row (by rw [evs]; rfl)
  exact ⟨gs, cs0, c1, lt_of_blk' h1.blk, hgs, hptr, hptr2, (blk6 s3).2.2.1, (blk6 sr).2.2.1, lt_of_blk' s3, lt_of_blk' sr⟩

theorem btake_twice {r : Nat} (t : ByteArray) (h : BxSt K w0 w B p d ps W T a n tk) (ho : OInv W T a n tk) (hr : r < 3) (ha : a < 255) (htk : tk r = true) :
    Calls Try.prog 54 #[.pointer (some ⟨B.bb, 0, none⟩), .int .i64 (r : Int), .string t] w fun e w' => e = .returned (.tuple #[.int .i64 10, .bool true]) ∧ Below w.heap.size w w' := by
  have hsa : sndOf a r ≤ 255 := by unfold sndOf; split <;> omega
  obtain ⟨F, hd⟩ := h.desk
  exact btake_no B p d r 10 ps W T a n tk t w h hr ho.inv.tape (by decide) (fun w' hb => dtake_twice d 3 W.D _ _ t w' (hd.below hb) (by rw [ho.inv.len]; omega) (ho.inv.uns 3 (by omega)) (by omega) (by omega) (by omega) (by have := ho.fewer; omega) (by rw [ho.tkn r hr]; exact htk))
theorem btake_bad {r : Nat} (t : ByteArray) (h : BxSt K w0 w B p d ps W T a n tk) (ho : OInv W T a n tk) (hr : r < 3) (ha : a < 255) (htk : tk r = false) (hz : t.size ≤ 140737488355328) (hit : isText (bytesOf t) = false) :
    Calls Try.prog 54 #[.pointer (some ⟨B.bb, 0, none⟩), .int .i64 (r : Int), .string t] w fun e w' => e = .returned (.tuple #[.int .i64 9, .bool true]) ∧ Below w.heap.size w w' := by
  have hsa : sndOf a r ≤ 255 := by unfold sndOf; split <;> omega
  obtain ⟨F, hd⟩ := h.desk
  exact btake_no B p d r 9 ps W T a n tk t w h hr ho.inv.tape (by decide) (fun w' hb => dtake_text d 3 W.D _ _ t w' (hd.below hb) (by rw [ho.inv.len]; omega) (ho.inv.uns 3 (by omega)) (by omega) (by omega) (by omega) (by have := ho.fewer; omega) (by rw [ho.tkn r hr]; exact htk) hz hit)
theorem btake_ok {r : Nat} (h : BxSt K w0 w B p d ps W T a n tk) (ho : OInv W T a n tk) (hr : r < 3) (ha : a < 255) (htk : tk r = false) :
    Calls Try.prog 54 #[.pointer (some ⟨B.bb, 0, none⟩), .int .i64 (r : Int), .string (T r)] w fun e w' => TakePost K w0 B p d r ps W T a n tk e w' :=
  btake_in B p d r ps W T a n tk (T r) w h hr ho.inv (by have := (ho.mail r hr).z2; omega) (ho.mail r hr).is (ho.mail r hr).told (by rw [ho.tkn r hr]; exact htk) ho.fewer ha

set_option maxHeartbeats 4000000 in
set_option maxRecDepth 100000 in
theorem deliver_twice_a (kd A Bb C q : Int) (h : BxSt K w0 w B p d ps W T a n tk) (ho : OInv W T a n tk) (ha : a < 255) (hA : InRange A) (hkd : kd ≠ 2) (htk : tk (pickN A 3) = true) :
    Calls Try.prog 23 #[.pointer (some ⟨B.bb, 0, none⟩), .agg #[.int .i64 kd, .int .i64 A, .int .i64 Bb, .int .i64 C], .int .i64 q] w fun e w' => e = .returned (.bool true) ∧ BxSt K w0 w' B p d ps W T a n tk := by
  have hkd' : (kd == 2) = false := by simpa using hkd
  have hr := pickN_lt A (n := 3) (by omega)
  generalize hrp : pickN A 3 = r at *
  have HTK := hid htk
  clear htk
  have HP := hid (fun (w' : World) => pick_any A 3 w' hA.1 hA.2 (by omega) (by omega))
  rw [hrp] at HP
  have hbA : Below w.heap.size w (w.alloc (.cells #[.int .i64 kd, .int .i64 A, .int .i64 Bb, .int .i64 C] 39)) := (Below.refl w.heap.size w).alloc (Nat.le_refl _) _
  obtain ⟨K', hbx⟩ := h.box
  obtain ⟨gs, cs0, c1, hpz, hgs, hp3, hpr, n3, nr, hz3, hzr⟩ := h.ptrs hr
  obtain ⟨b0, b1, b2, b3, b4, bz⟩ := blk5 hbx.blk
  have hbz := lt_of_blk' hbx.blk
  have ht := hbx.txt r hr
  have htz := hbx.ltt
  have hkc := (hbx.sndr hr).2.2
  have hkz := lt_of_blk' hbx.tkn
  have hc3 := ho.inv.came 3 (by omega)
  have hdl : (dumpOf q (W.D.sks.getD 3 Hd.none).sk).length ≤ 1099511627776 := by
    rw [dumpOf_length]
    have := hc3.inok.ok.len
    have := hc3.inok.ok.cnt
    have := nsum_le (W.D.sks.getD 3 Hd.none).sk.lv
    omega
  have hm3 : (W.sd 3).n ≤ 268435456 := by rw [hc3.inok.n]; exact hc3.inok.ok.cnt
  have hcr := ho.inv.came r (by omega)
  have hmr : (W.sd r).n ≤ 268435456 := by rw [hcr.inok.n]; exact hcr.inok.ok.cnt
  obtain ⟨K9, w9, hst9, huse9⟩ := h.use
  have HDU := hid (fun (w' : World) (hb : Below w.heap.size w w') => dump_any p d 3 q ps W w' (hst9.below hb) (by omega) ho.inv.len hc3 (ho.inv.roomy 3 (by omega)))
  have HKE := hid (fun (w' : World) (hb : Below w.heap.size w w') => kept_any p d 3 ps W w' (hst9.below hb) (by omega) ho.inv.len hc3)
  have HWI := hid (fun (w' : World) (hb : Below w.heap.size w w') => within_gen p d 3 q ps W w' (hst9.below hb) (by omega) ho.inv.len hc3 (ho.inv.roomy 3 (by omega)) (ho.inv.near 3 (by omega) q))
  have HST := hid h
  have HOI := hid ho
  have HBA := hid hbA
  have HC3 := hid hc3
  have HCR := hid hcr
  have HLE := hid (ho.mail r hr)
  have hs1 : (0 : Int) ≤ (r : Int) := by omega
  have hs2 : (r : Int) < 3 := by omega
  have hs3 : (r : Int) < 4 := by omega
  clear hbA hbx h ho hc3 hcr hst9 huse9
  go_enter Try.func23, Try.ntmps23
  go_wp2_with (first | (go_at_call 9; refine (HP.out _).mono ?_; rintro e w' ⟨rfl, hw⟩; obtain rfl := hw.symm))
  have HB1 := HBA
  refine (HDU.out _ HB1.out).mono ?_
  rintro e w2 ⟨v1, rfl, hI1, hb2⟩
  have hB2 := HB1.out.trans (hb2.mono HB1.out.size)
  have HB2 := hid hB2
  have HI1 := hid hI1
  have hm2 : w2.heap[w.heap.size]? = some (.cells #[.int .i64 kd, .int .i64 A, .int .i64 Bb, .int .i64 C] 39 (0, 0)) := (hb2.block w.heap.size (by simp)).trans (heap_alloc_new w (.cells #[.int .i64 kd, .int .i64 A, .int .i64 Bb, .int .i64 C] 39 (0, 0)))
  have HM2 := hid hm2
  have hfr := HST.out.fresh hB2
  have HFR := hid hfr.1
  have HKP := hid hfr.2
  clear hI1 hb2 hB2 hm2 hfr
  go_wp2_with fail
  refine (btake_twice _ HFR.out HOI.out hr ha HTK.out).mono ?_
  rintro e w3 ⟨rfl, hb3⟩
  have hB3 := HB2.out.trans (hb3.mono HB2.out.size)
  have HB3 := hid hB3
  have HI3 := hid (HI1.out.below hb3)
  obtain ⟨m0, m1, m2, m3, mz⟩ := blk4 ((hb3.block w.heap.size (lt_of_blk' HM2.out)).trans HM2.out)
  have d1 := (hB3.cell (p := ⟨p, 1, none⟩) hpz).trans c1
  have d2 := (hB3.cell (p := ⟨gs, 3, none⟩) hgs).trans hp3
  have d3 := (hB3.cell (p := ⟨gs, r, none⟩) hgs).trans hpr
  have d4 := (hB3.cell (p := ⟨ps 3, 2, none⟩) hz3).trans n3
  have d5 := (hB3.cell (p := ⟨ps r, 2, none⟩) hzr).trans nr
  have d6 := (hB3.cell (p := ⟨B.bb, 4, none⟩) hbz).trans b4
  have d7 := (hB3.cell (p := ⟨B.gk, r, none⟩) hkz).trans hkc
  clear hB3 hb3 c1 hp3 hpr n3 nr b0 b1 b2 b3 b4 bz hkc ht
  rw [HTK.out] at d7
  go_wp2_with fail
  have HBT := HB3
  have HIT3 := HI3
  refine (HDU.out _ HBT.out).mono ?_
  rintro e w4 ⟨v2, rfl, hI2, hb4⟩
  have HB4 := hid (HBT.out.trans (hb4.mono HBT.out.size))
  have HSI := hid (sameInts_any v1 v2 _ w4 (HIT3.out.below hb4) hI2 hdl)
  clear hb4 hI2 HDU
  go_wp2_with fail
  refine HSI.out.mono ?_
  rintro e w5 ⟨rfl, hb5⟩
  have HB5 := hid (HB4.out.trans (hb5.mono HB4.out.size))
  clear hb5 HSI
  go_wp2_with fail
  refine (HKE.out _ HB5.out).mono ?_
  rintro e w6 ⟨rfl, hb6⟩
  have HB6 := hid (HB5.out.trans (hb6.mono HB5.out.size))
  clear hb6 HKE
  go_wp2_with fail
  refine (HWI.out _ HB6.out).mono ?_
  rintro e w7 ⟨rfl, hb7⟩
  have HB7 := hid (HB6.out.trans (hb7.mono HB6.out.size))
  clear hb7 HWI
  go_wp2_with fail
  go_ret
  exact ⟨rfl, HST.out.below HB7.out⟩

set_option maxHeartbeats 4000000 in
set_option maxRecDepth 100000 in
theorem deliver_twice_b (kd A Bb C q : Int) (h : BxSt K w0 w B p d ps W T a n tk) (ho : OInv W T a n tk) (ha : a < 255) (hA : InRange A) (hkd : kd = 2) (hB : InRange Bb) (hC : InRange C) (htk : tk (pickN A 3) = true) :
    Calls Try.prog 23 #[.pointer (some ⟨B.bb, 0, none⟩), .agg #[.int .i64 kd, .int .i64 A, .int .i64 Bb, .int .i64 C], .int .i64 q] w fun e w' => e = .returned (.bool true) ∧ BxSt K w0 w' B p d ps W T a n tk := by
  subst hkd
  have hr := pickN_lt A (n := 3) (by omega)
  generalize hrp : pickN A 3 = r at *
  have HTK := hid htk
  clear htk
  have HP := hid (fun (w' : World) => pick_any A 3 w' hA.1 hA.2 (by omega) (by omega))
  rw [hrp] at HP
  have hbA : Below w.heap.size w (w.alloc (.cells #[.int .i64 2, .int .i64 A, .int .i64 Bb, .int .i64 C] 39)) := (Below.refl w.heap.size w).alloc (Nat.le_refl _) _
  obtain ⟨K', hbx⟩ := h.box
  obtain ⟨gs, cs0, c1, hpz, hgs, hp3, hpr, n3, nr, hz3, hzr⟩ := h.ptrs hr
  obtain ⟨b0, b1, b2, b3, b4, bz⟩ := blk5 hbx.blk
  have hbz := lt_of_blk' hbx.blk
  have ht := hbx.txt r hr
  have htz := hbx.ltt
  have hkc := (hbx.sndr hr).2.2
  have hkz := lt_of_blk' hbx.tkn
  have hc3 := ho.inv.came 3 (by omega)
  have hdl : (dumpOf q (W.D.sks.getD 3 Hd.none).sk).length ≤ 1099511627776 := by
    rw [dumpOf_length]
    have := hc3.inok.ok.len
    have := hc3.inok.ok.cnt
    have := nsum_le (W.D.sks.getD 3 Hd.none).sk.lv
    omega
  have hm3 : (W.sd 3).n ≤ 268435456 := by rw [hc3.inok.n]; exact hc3.inok.ok.cnt
  have hcr := ho.inv.came r (by omega)
  have hmr : (W.sd r).n ≤ 268435456 := by rw [hcr.inok.n]; exact hcr.inok.ok.cnt
  obtain ⟨K9, w9, hst9, huse9⟩ := h.use
  have HDU := hid (fun (w' : World) (hb : Below w.heap.size w w') => dump_any p d 3 q ps W w' (hst9.below hb) (by omega) ho.inv.len hc3 (ho.inv.roomy 3 (by omega)))
  have HKE := hid (fun (w' : World) (hb : Below w.heap.size w w') => kept_any p d 3 ps W w' (hst9.below hb) (by omega) ho.inv.len hc3)
  have HWI := hid (fun (w' : World) (hb : Below w.heap.size w w') => within_gen p d 3 q ps W w' (hst9.below hb) (by omega) ho.inv.len hc3 (ho.inv.roomy 3 (by omega)) (ho.inv.near 3 (by omega) q))
  have HST := hid h
  have HOI := hid ho
  have HBA := hid hbA
  have HC3 := hid hc3
  have HCR := hid hcr
  have HLE := hid (ho.mail r hr)
  have hs1 : (0 : Int) ≤ (r : Int) := by omega
  have hs2 : (r : Int) < 3 := by omega
  have hs3 : (r : Int) < 4 := by omega
  clear hbA hbx h ho hc3 hcr hst9 huse9
  have HCH := hid (fun (w' : World) => changed_any (T r) Bb C w' HLE.out.z1 HLE.out.z2 hB hC)
  go_enter Try.func23, Try.ntmps23
  go_wp2_with (first | (go_at_call 9; refine (HP.out _).mono ?_; rintro e w' ⟨rfl, hw⟩; obtain rfl := hw.symm))
  refine (HCH.out _).mono ?_
  rintro e w1 ⟨y, hy1, hy2, rfl, hb1⟩
  have HB1 := hid (HBA.out.trans (hb1.mono HBA.out.size))
  have hm1 := (hb1.block w.heap.size (by simp)).trans (heap_alloc_new w (.cells #[.int .i64 2, .int .i64 A, .int .i64 Bb, .int .i64 C] 39 (0, 0)))
  have HM1 := hid hm1
  have HY := hid (HLE.out.marred (pickN_lt Bb HLE.out.z1) hy1 hy2)
  have HYZ := hid (HLE.out.msize (i := pickN Bb (T r).size) hy1)
  generalize txt ((bytesOf (T r)).set (pickN Bb (T r).size) y) = t' at *
  clear hm1 hb1 hy1 hy2
  go_wp2_with fail
  refine (HDU.out _ HB1.out).mono ?_
  rintro e w2 ⟨v1, rfl, hI1, hb2⟩
  have hB2 := HB1.out.trans (hb2.mono HB1.out.size)
  have HB2 := hid hB2
  have HI1 := hid hI1
  have hm2 : w2.heap[w.heap.size]? = some (.cells #[.int .i64 2, .int .i64 A, .int .i64 Bb, .int .i64 C] 39 (0, 0)) := (hb2.block w.heap.size (by exact lt_of_blk' HM1.out)).trans HM1.out
  have HM2 := hid hm2
  have hfr := HST.out.fresh hB2
  have HFR := hid hfr.1
  have HKP := hid hfr.2
  clear hI1 hb2 hB2 hm2 hfr
  go_wp2_with fail
  refine (btake_twice _ HFR.out HOI.out hr ha HTK.out).mono ?_
  rintro e w3 ⟨rfl, hb3⟩
  have hB3 := HB2.out.trans (hb3.mono HB2.out.size)
  have HB3 := hid hB3
  have HI3 := hid (HI1.out.below hb3)
  obtain ⟨m0, m1, m2, m3, mz⟩ := blk4 ((hb3.block w.heap.size (lt_of_blk' HM2.out)).trans HM2.out)
  have d1 := (hB3.cell (p := ⟨p, 1, none⟩) hpz).trans c1
  have d2 := (hB3.cell (p := ⟨gs, 3, none⟩) hgs).trans hp3
  have d3 := (hB3.cell (p := ⟨gs, r, none⟩) hgs).trans hpr
  have d4 := (hB3.cell (p := ⟨ps 3, 2, none⟩) hz3).trans n3
  have d5 := (hB3.cell (p := ⟨ps r, 2, none⟩) hzr).trans nr
  have d6 := (hB3.cell (p := ⟨B.bb, 4, none⟩) hbz).trans b4
  have d7 := (hB3.cell (p := ⟨B.gk, r, none⟩) hkz).trans hkc
  clear hB3 hb3 c1 hp3 hpr n3 nr b0 b1 b2 b3 b4 bz hkc ht
  rw [HTK.out] at d7
  go_wp2_with fail
  have HBT := HB3
  have HIT3 := HI3
  refine (HDU.out _ HBT.out).mono ?_
  rintro e w4 ⟨v2, rfl, hI2, hb4⟩
  have HB4 := hid (HBT.out.trans (hb4.mono HBT.out.size))
  have HSI := hid (sameInts_any v1 v2 _ w4 (HIT3.out.below hb4) hI2 hdl)
  clear hb4 hI2 HDU
  go_wp2_with fail
  refine HSI.out.mono ?_
  rintro e w5 ⟨rfl, hb5⟩
  have HB5 := hid (HB4.out.trans (hb5.mono HB4.out.size))
  clear hb5 HSI
  go_wp2_with fail
  refine (HKE.out _ HB5.out).mono ?_
  rintro e w6 ⟨rfl, hb6⟩
  have HB6 := hid (HB5.out.trans (hb6.mono HB5.out.size))
  clear hb6 HKE
  go_wp2_with fail
  refine (HWI.out _ HB6.out).mono ?_
  rintro e w7 ⟨rfl, hb7⟩
  have HB7 := hid (HB6.out.trans (hb7.mono HB6.out.size))
  clear hb7 HWI
  go_wp2_with fail
  go_ret
  exact ⟨rfl, HST.out.below HB7.out⟩

set_option maxHeartbeats 4000000 in
set_option maxRecDepth 100000 in
theorem deliver_bad (kd A Bb C q : Int) (h : BxSt K w0 w B p d ps W T a n tk) (ho : OInv W T a n tk) (ha : a < 255) (hA : InRange A) (hkd : kd = 2) (hB : InRange Bb) (hC : InRange C) (htk : tk (pickN A 3) = false) :
    Calls Try.prog 23 #[.pointer (some ⟨B.bb, 0, none⟩), .agg #[.int .i64 kd, .int .i64 A, .int .i64 Bb, .int .i64 C], .int .i64 q] w fun e w' => e = .returned (.bool true) ∧ BxSt K w0 w' B p d ps W T a n tk := by
  subst hkd
  have hr := pickN_lt A (n := 3) (by omega)
  generalize hrp : pickN A 3 = r at *
  have HTK := hid htk
  clear htk
  have HP := hid (fun (w' : World) => pick_any A 3 w' hA.1 hA.2 (by omega) (by omega))
  rw [hrp] at HP
  have hbA : Below w.heap.size w (w.alloc (.cells #[.int .i64 2, .int .i64 A, .int .i64 Bb, .int .i64 C] 39)) := (Below.refl w.heap.size w).alloc (Nat.le_refl _) _
  obtain ⟨K', hbx⟩ := h.box
  obtain ⟨gs, cs0, c1, hpz, hgs, hp3, hpr, n3, nr, hz3, hzr⟩ := h.ptrs hr
  obtain ⟨b0, b1, b2, b3, b4, bz⟩ := blk5 hbx.blk
  have hbz := lt_of_blk' hbx.blk
  have ht := hbx.txt r hr
  have htz := hbx.ltt
  have hkc := (hbx.sndr hr).2.2
  have hkz := lt_of_blk' hbx.tkn
  have hc3 := ho.inv.came 3 (by omega)
  have hdl : (dumpOf q (W.D.sks.getD 3 Hd.none).sk).length ≤ 1099511627776 := by
    rw [dumpOf_length]
    have := hc3.inok.ok.len
    have := hc3.inok.ok.cnt
    have := nsum_le (W.D.sks.getD 3 Hd.none).sk.lv
    omega
  have hm3 : (W.sd 3).n ≤ 268435456 := by rw [hc3.inok.n]; exact hc3.inok.ok.cnt
  have hcr := ho.inv.came r (by omega)
  have hmr : (W.sd r).n ≤ 268435456 := by rw [hcr.inok.n]; exact hcr.inok.ok.cnt
  obtain ⟨K9, w9, hst9, huse9⟩ := h.use
  have HDU := hid (fun (w' : World) (hb : Below w.heap.size w w') => dump_any p d 3 q ps W w' (hst9.below hb) (by omega) ho.inv.len hc3 (ho.inv.roomy 3 (by omega)))
  have HKE := hid (fun (w' : World) (hb : Below w.heap.size w w') => kept_any p d 3 ps W w' (hst9.below hb) (by omega) ho.inv.len hc3)
  have HWI := hid (fun (w' : World) (hb : Below w.heap.size w w') => within_gen p d 3 q ps W w' (hst9.below hb) (by omega) ho.inv.len hc3 (ho.inv.roomy 3 (by omega)) (ho.inv.near 3 (by omega) q))
  have HST := hid h
  have HOI := hid ho
  have HBA := hid hbA
  have HC3 := hid hc3
  have HCR := hid hcr
  have HLE := hid (ho.mail r hr)
  have hs1 : (0 : Int) ≤ (r : Int) := by omega
  have hs2 : (r : Int) < 3 := by omega
  have hs3 : (r : Int) < 4 := by omega
  clear hbA hbx h ho hc3 hcr hst9 huse9
  have HCH := hid (fun (w' : World) => changed_any (T r) Bb C w' HLE.out.z1 HLE.out.z2 hB hC)
  go_enter Try.func23, Try.ntmps23
  go_wp2_with (first | (go_at_call 9; refine (HP.out _).mono ?_; rintro e w' ⟨rfl, hw⟩; obtain rfl := hw.symm))
  refine (HCH.out _).mono ?_
  rintro e w1 ⟨y, hy1, hy2, rfl, hb1⟩
  have HB1 := hid (HBA.out.trans (hb1.mono HBA.out.size))
  have hm1 := (hb1.block w.heap.size (by simp)).trans (heap_alloc_new w (.cells #[.int .i64 2, .int .i64 A, .int .i64 Bb, .int .i64 C] 39 (0, 0)))
  have HM1 := hid hm1
  have HY := hid (HLE.out.marred (pickN_lt Bb HLE.out.z1) hy1 hy2)
  have HYZ := hid (HLE.out.msize (i := pickN Bb (T r).size) hy1)
  generalize txt ((bytesOf (T r)).set (pickN Bb (T r).size) y) = t' at *
  clear hm1 hb1 hy1 hy2
  go_wp2_with fail
  refine (HDU.out _ HB1.out).mono ?_
  rintro e w2 ⟨v1, rfl, hI1, hb2⟩
  have hB2 := HB1.out.trans (hb2.mono HB1.out.size)
  have HB2 := hid hB2
  have HI1 := hid hI1
  have hm2 : w2.heap[w.heap.size]? = some (.cells #[.int .i64 2, .int .i64 A, .int .i64 Bb, .int .i64 C] 39 (0, 0)) := (hb2.block w.heap.size (by exact lt_of_blk' HM1.out)).trans HM1.out
  have HM2 := hid hm2
  have hfr := HST.out.fresh hB2
  have HFR := hid hfr.1
  have HKP := hid hfr.2
  clear hI1 hb2 hB2 hm2 hfr
  go_wp2_with fail
  refine (btake_bad _ HFR.out HOI.out hr ha HTK.out (by have := HYZ.out; omega) HY.out).mono ?_
  rintro e w3 ⟨rfl, hb3⟩
  have hB3 := HB2.out.trans (hb3.mono HB2.out.size)
  have HB3 := hid hB3
  have HI3 := hid (HI1.out.below hb3)
  obtain ⟨m0, m1, m2, m3, mz⟩ := blk4 ((hb3.block w.heap.size (lt_of_blk' HM2.out)).trans HM2.out)
  have d1 := (hB3.cell (p := ⟨p, 1, none⟩) hpz).trans c1
  have d2 := (hB3.cell (p := ⟨gs, 3, none⟩) hgs).trans hp3
  have d3 := (hB3.cell (p := ⟨gs, r, none⟩) hgs).trans hpr
  have d4 := (hB3.cell (p := ⟨ps 3, 2, none⟩) hz3).trans n3
  have d5 := (hB3.cell (p := ⟨ps r, 2, none⟩) hzr).trans nr
  have d6 := (hB3.cell (p := ⟨B.bb, 4, none⟩) hbz).trans b4
  have d7 := (hB3.cell (p := ⟨B.gk, r, none⟩) hkz).trans hkc
  clear hB3 hb3 c1 hp3 hpr n3 nr b0 b1 b2 b3 b4 bz hkc ht
  rw [HTK.out] at d7
  go_wp2_with fail
  have HBT := HB3
  have HIT3 := HI3
  refine (HDU.out _ HBT.out).mono ?_
  rintro e w4 ⟨v2, rfl, hI2, hb4⟩
  have HB4 := hid (HBT.out.trans (hb4.mono HBT.out.size))
  have HSI := hid (sameInts_any v1 v2 _ w4 (HIT3.out.below hb4) hI2 hdl)
  clear hb4 hI2 HDU
  go_wp2_with fail
  refine HSI.out.mono ?_
  rintro e w5 ⟨rfl, hb5⟩
  have HB5 := hid (HB4.out.trans (hb5.mono HB4.out.size))
  clear hb5 HSI
  go_wp2_with fail
  refine (HKE.out _ HB5.out).mono ?_
  rintro e w6 ⟨rfl, hb6⟩
  have HB6 := hid (HB5.out.trans (hb6.mono HB5.out.size))
  clear hb6 HKE
  go_wp2_with fail
  refine (HWI.out _ HB6.out).mono ?_
  rintro e w7 ⟨rfl, hb7⟩
  have HB7 := hid (HB6.out.trans (hb7.mono HB6.out.size))
  clear hb7 HWI
  go_wp2_with fail
  go_ret
  exact ⟨rfl, HST.out.below HB7.out⟩

end Go.Proofs.Ytklicjbpjigfdab

/- DERIVED. The walk of a delivery that comes in, or finds the sketch full. -/
namespace Go.Proofs.Ytklicjbpjigfdab
open Go.RowKit
attribute [local go_sem ↓] Go.wp_at_zero Go.wp_at_succ
variable {K : Nat → Prop} {w0 : World}
variable {B : Bx} {p d : Nat} {ps : Nat → Nat} {W : Wd} {T : Nat → ByteArray} {a n : Nat} {tk : Nat → Bool} {w : World}

theorem gk_frozen {K' : Nat → Prop} (h : BoxAt K' w B p T a n tk) : ∀ o, w.frozen? ⟨B.gk, o, none⟩ = false := fun o => by simp [World.frozen?, h.tkn]
set_option maxHeartbeats 4000000 in
set_option maxRecDepth 100000 in
theorem deliver_in (kd A Bb C q : Int) (h : BxSt K w0 w B p d ps W T a n tk) (ho : OInv W T a n tk) (ha : a < 255) (hA : InRange A) (hK : ¬ K B.gk) (hkd : kd ≠ 2) (htk : tk (pickN A 3) = false) :
    Calls Try.prog 23 #[.pointer (some ⟨B.bb, 0, none⟩), .agg #[.int .i64 kd, .int .i64 A, .int .i64 Bb, .int .i64 C], .int .i64 q] w fun e w' => e = .returned (.bool true) ∧ (∃ W' tk', BxSt K w0 w' B p d ps W' T a n tk' ∧ OInv W' T a n tk') := by
  have hkd' : (kd == 2) = false := by simpa using hkd
  have hr := pickN_lt A (n := 3) (by omega)
  generalize hrp : pickN A 3 = r at *
  have HTK := hid htk
  clear htk
  have HP := hid (fun (w' : World) => pick_any A 3 w' hA.1 hA.2 (by omega) (by omega))
  rw [hrp] at HP
  have hbA : Below w.heap.size w (w.alloc (.cells #[.int .i64 kd, .int .i64 A, .int .i64 Bb, .int .i64 C] 39)) := (Below.refl w.heap.size w).alloc (Nat.le_refl _) _
  obtain ⟨K', hbx⟩ := h.box
  obtain ⟨gs, cs0, c1, hpz, hgs, hp3, hpr, n3, nr, hz3, hzr⟩ := h.ptrs hr
  obtain ⟨b0, b1, b2, b3, b4, bz⟩ := blk5 hbx.blk
  have hbz := lt_of_blk' hbx.blk
  have ht := hbx.txt r hr
  have htz := hbx.ltt
  have hkc := (hbx.sndr hr).2.2
  have hkz := lt_of_blk' hbx.tkn
  have hc3 := ho.inv.came 3 (by omega)
  have hdl : (dumpOf q (W.D.sks.getD 3 Hd.none).sk).length ≤ 1099511627776 := by
    rw [dumpOf_length]
    have := hc3.inok.ok.len
    have := hc3.inok.ok.cnt
    have := nsum_le (W.D.sks.getD 3 Hd.none).sk.lv
    omega
  have hm3 : (W.sd 3).n ≤ 268435456 := by rw [hc3.inok.n]; exact hc3.inok.ok.cnt
  have hcr := ho.inv.came r (by omega)
  have hmr : (W.sd r).n ≤ 268435456 := by rw [hcr.inok.n]; exact hcr.inok.ok.cnt
  obtain ⟨K9, w9, hst9, huse9⟩ := h.use
  have HDU := hid (fun (w' : World) (hb : Below w.heap.size w w') => dump_new p d 3 q ps W w' (hst9.below hb) (by omega) ho.inv.len hc3 (ho.inv.roomy 3 (by omega)))
  have HKE := hid (fun (w' : World) (hb : Below w.heap.size w w') => kept_any p d 3 ps W w' (hst9.below hb) (by omega) ho.inv.len hc3)
  have HWI := hid (fun (w' : World) (hb : Below w.heap.size w w') => within_gen p d 3 q ps W w' (hst9.below hb) (by omega) ho.inv.len hc3 (ho.inv.roomy 3 (by omega)) (ho.inv.near 3 (by omega) q))
  have HST := hid h
  have HOI := hid ho
  have HBA := hid hbA
  have HC3 := hid hc3
  have HCR := hid hcr
  have HLE := hid (ho.mail r hr)
  have hs1 : (0 : Int) ≤ (r : Int) := by omega
  have hs2 : (r : Int) < 3 := by omega
  have hs3 : (r : Int) < 4 := by omega
  clear hbA hbx h ho hc3 hcr hst9 huse9
  go_enter Try.func23, Try.ntmps23
  go_wp2_with (first | (go_at_call 9; refine (HP.out _).mono ?_; rintro e w' ⟨rfl, hw⟩; obtain rfl := hw.symm))
  have HB1 := HBA
  refine (HDU.out _ HB1.out).mono ?_
  rintro e w2 ⟨v1, rfl, hI1, hb2, hn1⟩
  have hB2 := HB1.out.trans (hb2.mono HB1.out.size)
  have HB2 := hid hB2
  have HI1 := hid hI1
  have HNEW : Hid (∀ g, v1.ownBlock = some g → w.heap.size ≤ g) := fun g hg => Nat.le_trans HB1.out.size (hn1 g hg)
  have hm2 : w2.heap[w.heap.size]? = some (.cells #[.int .i64 kd, .int .i64 A, .int .i64 Bb, .int .i64 C] 39 (0, 0)) := (hb2.block w.heap.size (by simp)).trans (heap_alloc_new w (.cells #[.int .i64 kd, .int .i64 A, .int .i64 Bb, .int .i64 C] 39 (0, 0)))
  have HM2 := hid hm2
  have hfr := HST.out.fresh hB2
  have HFR := hid hfr.1
  have HNK : Hid (¬ (K B.gk ∨ (w.heap.size ≤ B.gk ∧ B.gk < w2.heap.size))) := fun h => h.elim hK (fun h => by omega)
  have HKP := hid hfr.2
  clear hI1 hb2 hB2 hm2 hfr
  go_wp2_with fail
  refine (btake_ok HFR.out HOI.out hr ha HTK.out).mono ?_
  intro e w3 hpost
  have hn3' : ((W.sd 3).n : Int) = (wsum (W.D.sks.getD 3 Hd.none).sk.lv : Int) := by rw [HC3.out.inok.n]
  have hnr' : ((W.sd r).n : Int) = (wsum (W.D.sks.getD r Hd.none).sk.lv : Int) := by rw [HCR.out.inok.n]
  rcases hpost with ⟨hfull, rfl, hst⟩ | ⟨hfits, rfl, cs, L', a', hdr, hset, hcs, hst⟩
  · have hfi : 268435456 - ((W.sd 3).n : Int) < ((W.sd r).n : Int) := by omega
    have hfi' : decide (268435456 - ((W.sd 3).n : Int) < ((W.sd r).n : Int)) = true := decide_eq_true hfi
    have HS3 := hid hst
    obtain ⟨K7, hbx7⟩ := hst.box
    obtain ⟨gs7, cs7, d1, hpz7, hgs7, d2, d3, d4, d5, hz37, hzr7⟩ := hst.ptrs hr
    obtain ⟨_, _, _, _, d6, _⟩ := blk5 hbx7.blk
    have d7 := (hbx7.sndr hr).2.2
    have hkp := hst.keeps
    obtain ⟨m0, m1, m2, m3, mz⟩ := blk4 ((hkp.block w.heap.size (.inr ⟨Nat.le_refl _, lt_of_blk' HM2.out⟩)).trans HM2.out)
    rw [HTK.out] at d7
    have hi3 : Ints w3 v1 (dumpOf q (W.D.sks.getD 3 Hd.none).sk) := HI1.out.block (fun g hg => hkp.block g (.inr ⟨HNEW.out g hg, ownsRow_lt HI1.out hg⟩))
    have HI3 := hid hi3
    obtain ⟨K8, w8, hst8, huse8⟩ := hst.use
    have HD2 := hid (fun (w' : World) (hb : Below w3.heap.size w3 w') => dump_any p d 3 q ps W w' (hst8.below hb) (by omega) HOI.out.inv.len HC3.out (HOI.out.inv.roomy 3 (by omega)))
    have HK2 := hid (fun (w' : World) (hb : Below w3.heap.size w3 w') => kept_any p d 3 ps W w' (hst8.below hb) (by omega) HOI.out.inv.len HC3.out)
    have HW2 := hid (fun (w' : World) (hb : Below w3.heap.size w3 w') => within_gen p d 3 q ps W w' (hst8.below hb) (by omega) HOI.out.inv.len HC3.out (HOI.out.inv.roomy 3 (by omega)) (HOI.out.inv.near 3 (by omega) q))
    clear hst hbx7 hkp hi3 hst8 huse8 c1 hp3 hpr n3 nr b0 b1 b2 b3 b4 bz hkc ht HDU HKE HWI hn3' hnr' hfull
    generalize (W.sd 3).n = c3 at *
    generalize (W.sd r).n = cr at *
    go_wp2_with fail
    go_quiet (fail)
    go_wp2_with fail
    have HBT : Hid (Below w3.heap.size w3 (w3.drewN nq)) := below_drewN (Below.refl _ _) _
    refine (HD2.out _ HBT.out).mono ?_
    rintro e w4 ⟨v2, rfl, hI2, hb4⟩
    have HB4 := hid (HBT.out.trans (hb4.mono HBT.out.size))
    have HSI := hid (sameInts_any v1 v2 _ w4 (HI3.out.below HB4.out) hI2 hdl)
    clear hb4 hI2 HD2
    go_wp2_with fail
    refine HSI.out.mono ?_
    rintro e w5 ⟨rfl, hb5⟩
    have HB5 := hid (HB4.out.trans (hb5.mono HB4.out.size))
    clear hb5 HSI
    go_wp2_with fail
    refine (HK2.out _ HB5.out).mono ?_
    rintro e w6 ⟨rfl, hb6⟩
    have HB6 := hid (HB5.out.trans (hb6.mono HB5.out.size))
    clear hb6 HK2
    go_wp2_with fail
    refine (HW2.out _ HB6.out).mono ?_
    rintro e w7 ⟨rfl, hb7⟩
    have HB7 := hid (HB6.out.trans (hb7.mono HB6.out.size))
    clear hb7 HW2
    go_wp2_with fail
    go_ret
    exact ⟨rfl, W, tk, (HS3.out.below HB7.out).back (fun b hb => .inl hb) HKP.out, HOI.out⟩
  · have hfi : ¬ 268435456 - ((W.sd 3).n : Int) < ((W.sd r).n : Int) := by omega
    have hfi' : decide (268435456 - ((W.sd 3).n : Int) < ((W.sd r).n : Int)) = false := decide_eq_false hfi
    have HO2 := hid (HOI.out.took hr HTK.out hfits hdr.1 hset hcs)
    obtain ⟨K7, hbx7⟩ := hst.box
    obtain ⟨gs7, cs7, d1, hpz7, hgs7, d2, d3, d4, d5, hz37, hzr7⟩ := hst.ptrs hr
    obtain ⟨_, _, _, _, d6, _⟩ := blk5 hbx7.blk
    have d7 := (hbx7.sndr hr).2.2
    have hkp := hst.keeps
    obtain ⟨m0, m1, m2, m3, mz⟩ := blk4 ((hkp.block w.heap.size (.inr ⟨Nat.le_refl _, lt_of_blk' HM2.out⟩)).trans HM2.out)
    rw [HTK.out] at d7
    change w3.cell? ⟨ps 3, 2, none⟩ = some (.int .i64 ((W.sd 3).n : Int)) at d4
    change w3.cell? ⟨ps r, 2, none⟩ = some (.int .i64 ((W.sd r).n : Int)) at d5
    have HS3 := hid hst
    obtain ⟨K8, w8, hst8, huse8⟩ := hst.use
    have HAL := hid (fun (w' : World) (hb : Below w3.heap.size w3 w') => all_any (K := K8) (w0 := w8) p d 3 r _ _ ps _ w' (hst8.below hb) (by omega) (by omega) HC3.out HCR.out)
    have HU8 := hid huse8
    clear hst hbx7 hkp hst8 huse8 c1 hp3 hpr n3 nr b0 b1 b2 b3 b4 bz hkc ht HDU HKE HWI hn3' hnr' hdr hset hcs
    generalize (W.sd 3).n = c3 at *
    generalize (W.sd r).n = cr at *
    go_wp2_with fail
    go_quiet (fail)
    go_wp2_with fail
    refine (HAL.out _ (below_drewN (Below.refl _ _) _)).mono ?_
    rintro e w4 ⟨rfl, hst4⟩
    have hs4 := HU8.out _ _ hst4
    obtain ⟨K4, hbx4⟩ := hs4.box
    obtain ⟨_, _, _, _, x4, _⟩ := blk5 hbx4.blk
    have x5 := (hbx4.sndr hr).2.2
    have xf := gk_frozen hbx4
    have hbz4 := lt_of_blk' hbx4.blk
    have hkz4 := lt_of_blk' hbx4.tkn
    have HT4 := hid (hs4.tick (r := r) HNK.out hr)
    clear hst4 hs4 hbx4 HAL HU8 d1 d2 d3 d4 d5 d6 d7 m0 m1 m2 m3 mz
    go_wp2_with fail
    have hst5 := HT4.out
    have hkp5 := hst5.keeps
    have HI5 : Hid (Ints (w4.setCell ⟨B.gk, r, none⟩ (.bool true)) v1 (dumpOf q (W.D.sks.getD 3 Hd.none).sk)) := HI1.out.block (fun g hg => hkp5.block g (.inr ⟨HNEW.out g hg, ownsRow_lt HI1.out hg⟩))
    obtain ⟨K5, w5', hs5, _⟩ := hst5.use
    have hc9 := HO2.out.inv.came 3 (by omega)
    have hdl9 : (dumpOf q ((((W.takes r L' cs.length a' (sndOf a r) (seqOf n r)).side 3 ((W.sd 3).all (W.sd r))).D.sks.getD 3 Hd.none).sk)).length ≤ 1099511627776 := by
      rw [dumpOf_length]
      have := hc9.inok.ok.len
      have := hc9.inok.ok.cnt
      have := nsum_le (((W.takes r L' cs.length a' (sndOf a r) (seqOf n r)).side 3 ((W.sd 3).all (W.sd r))).D.sks.getD 3 Hd.none).sk.lv
      omega
    generalize hw5 : w4.setCell ⟨B.gk, r, none⟩ (.bool true) = wt at *
    have HD2 := hid (dump_any p d 3 q ps _ wt hs5 (by omega) HO2.out.inv.len hc9 (HO2.out.inv.roomy 3 (by omega)))
    have HK2 := hid (fun (w' : World) (hb : Below wt.heap.size wt w') => kept_any p d 3 ps _ w' (hs5.below hb) (by omega) HO2.out.inv.len hc9)
    have HW2 := hid (fun (w' : World) (hb : Below wt.heap.size wt w') => within_gen p d 3 q ps _ w' (hs5.below hb) (by omega) HO2.out.inv.len hc9 (HO2.out.inv.roomy 3 (by omega)) (HO2.out.inv.near 3 (by omega) q))
    have HT5 := hid hst5
    clear hst5 hkp5 hs5 hc9 x4 x5 xf hw5 HT4
    refine HD2.out.mono ?_
    rintro e w6 ⟨v2, rfl, hI2, hb4⟩
    have HB4 := hid hb4
    have HSI := hid (sameInts_gen v1 v2 _ _ w6 (HI5.out.below hb4) hI2 hdl hdl9)
    clear hb4 hI2 HD2 hdl9
    go_wp2_with fail
    refine HSI.out.mono ?_
    rintro e w7 ⟨⟨bs, rfl⟩, hb5⟩
    have HB5 := hid (HB4.out.trans (hb5.mono HB4.out.size))
    clear hb5 HSI
    go_wp2_with fail
    refine (HK2.out _ HB5.out).mono ?_
    rintro e w9 ⟨rfl, hb6⟩
    have HB6 := hid (HB5.out.trans (hb6.mono HB5.out.size))
    clear hb6 HK2
    go_wp2_with fail
    refine (HW2.out _ HB6.out).mono ?_
    rintro e wz ⟨rfl, hb7⟩
    have HB7 := hid (HB6.out.trans (hb7.mono HB6.out.size))
    clear hb7 HW2
    go_wp2_with fail
    go_ret
    exact ⟨rfl, _, _, (HT5.out.below HB7.out).back (fun b hb => .inl hb) HKP.out, HO2.out⟩

end Go.Proofs.Ytklicjbpjigfdab
