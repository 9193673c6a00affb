/- DERIVED. The document's own desk: Encode, Decode. -/
import Derived.Test.YtklicjbpjigfdabGreatQ28
import Derived.Test.YtklicjbpjigfdabGreatQ20
import Derived.Test.YtklicjbpjigfdabGreatQ19
import Derived.Test.YtklicjbpjigfdabGreatQ22
import Derived.Test.YtklicjbpjigfdabGreatLawS
import Derived.Test.YtklicjbpjigfdabGreatQ26
import Derived.Test.YtklicjbpjigfdabGreatEntR
import Derived.Test.YtklicjbpjigfdabGreatTakeJ
import Derived.Deep.RegionLaw
namespace Go.Proofs.YtklicjbpjigfdabGreat
open Go.RowKit
attribute [local go_sem ↓] Go.wp_at_zero Go.wp_at_succ
variable {G : Nat → Prop}

/-- The ends are written only where there are items. -/
theorem write_ends {s : Sk} {lo hi : Int} (h : wsum s.lv ≠ 0 → lo = s.lo ∧ hi = s.hi) : writeB ⟨s.k, s.lv, lo, hi⟩ = writeB s := by
  by_cases hw : wsum s.lv = 0
  · have e : bodyB ⟨s.k, s.lv, lo, hi⟩ = bodyB s := by
      unfold bodyB endsB
      simp only [hw, if_true]
    rw [writeB_eq, writeB_eq, e]
  · obtain ⟨rfl, rfl⟩ := h hw
    rfl

set_option maxHeartbeats 400000 in
theorem rencode_no (d : Nat) (A : Int) (D : Dk) (w : World) (h : RAt G w d D) (hs : hasB A D.sks.length = false) :
    Calls Tryz.prog 52 #[.pointer (some ⟨d, 0, none⟩), .int .i64 A] w fun e w' => e = .returned (.tuple #[.string ⟨#[]⟩, .int .i64 4]) ∧ w' = w := by
  obtain ⟨s, va, rs, h⟩ := h
  have HH := hid (rhas d A D s va rs _ h)
  rw [hs] at HH
  clear h
  go_enter Tryz.func52, Tryz.ntmps52
  go_wp2_with (go_at_call 63; refine HH.out.mono ?_; rintro e w' ⟨rfl, hw⟩; obtain rfl := hw.symm)
  go_ret2
  exact ⟨rfl, rfl⟩

set_option maxHeartbeats 1000000 in
theorem rencode_any (d i : Nat) (D : Dk) (w : World) (h : RAt G w d D) (hd : LInv D) (hi : i < D.sks.length) :
    Calls Tryz.prog 52 #[.pointer (some ⟨d, 0, none⟩), .int .i64 (i : Int)] w fun e w' => e = .returned (.tuple #[.string (txt (writeB (D.sks.getD i Hd.none).sk)), .int .i64 0]) ∧ Below w.heap.size w w' := by
  obtain ⟨s, va, rs, h⟩ := h
  have HH := hid (rhas d (i : Int) D s va rs _ h)
  rw [hasB_nat hi] at HH
  obtain ⟨g, c, rfl, hg, q0, q1, q2, q3, q4, q5, q6, qz⟩ := h.cells7 hi
  obtain ⟨c0, c1, c2, cz⟩ := blk3 h.blk
  have hdz := lt_of_blk' h.blk
  have hk := h.sk i hi
  have hok := (hd.inv.sk i hi).ok
  obtain ⟨hbl, hlow⟩ := h.bagLen hd hi
  obtain ⟨bo, bl, bc, tO, tl, tc, ko, kl, kc, e1, e2, e3, e4, e5⟩ := hk.forms
  have HTX := hid (rtext_any _ (D.sks.getD i Hd.none).sk.k (.slice bo bl bc) (.slice tO tl tc) (.slice ko kl kc) (rs.getD i RRef.none).lo (rs.getD i RRef.none).hi (D.sks.getD i Hd.none).sealed (rs.getD i RRef.none).bag (D.sks.getD i Hd.none).sk.lv w (by rw [← e1]; exact hk.bag) (by rw [← e2]; exact hk.tms) hk.bof (hd.ok i hi).srt hbl (by have := hok.k2; omega) (by have := hok.len; omega) (fun j => by have := hok.tms j; omega))
  rw [write_ends (s := (D.sks.getD i Hd.none).sk) (fun hw => hk.ends (fun e => hw (by rw [wsum_zero, ← hk.bof.nsum, e]; rfl)))] at HTX
  rw [e1] at q1
  rw [e2] at q2
  rw [e3] at q6
  have hs2 : (i : Int) < (D.sks.length : Int) := by omega
  generalize writeB (D.sks.getD i Hd.none).sk = WB at *
  generalize D.sks.length = n at *
  generalize (D.sks.getD i Hd.none).sk.k = k at *
  generalize (D.sks.getD i Hd.none).sealed = sl at *
  generalize (rs.getD i RRef.none).lo = lo at *
  generalize (rs.getD i RRef.none).hi = hh at *
  clear h hk e1 e2 e3 e4 e5 hbl hlow hok
  go_enter Tryz.func52, Tryz.ntmps52
  go_wp2_with (go_at_call 63; refine HH.out.mono ?_; rintro e w' ⟨rfl, hw⟩; obtain rfl := hw.symm)
  refine HTX.out.mono ?_
  rintro e w2 ⟨rfl, hb2⟩
  have HB2 := hid hb2
  clear hb2
  go_wp2_with fail
  go_ret2
  exact ⟨rfl, HB2.out⟩

set_option maxHeartbeats 2000000 in
set_option maxRecDepth 100000 in
theorem rdecodeT (d : Nat) (t : ByteArray) (D : Dk) (w : World) (h : RAt G w d D) (hd : LInv D) (ht : t.size ≤ 140737488355328) :
    Calls Tryz.prog 54 #[.pointer (some ⟨d, 0, none⟩), .string t] w fun e w' => ∃ v c D', e = .returned (.tuple #[.int .i64 v, .int .i64 c]) ∧ RStep G w w' d D' ∧ DecodeRel t D v c D' := by
  have HRD := hid (rread_any t w ht)
  have HH := hid h
  have HR2 := hid hd.inv.room2
  clear h hd
  go_enter Tryz.func54, Tryz.ntmps54
  go_wp2_with fail
  refine HRD.out.mono ?_
  rintro e w1 ⟨hans, hb1⟩
  have HB1 := hid hb1
  clear hb1 HRD
  rcases hans with ⟨hno, k, bo, bl, bc, tO, tl, tc, lo, hi, rfl⟩ | ⟨hyes, bo, bl, bc, tO, tl, tc, rfl, hB, hT, hf⟩
  · have HNO : Hid (DecodeRel t D 0 9 D) := .inl ⟨rfl, rfl, hno, rfl⟩
    have HBA := hid (HB1.out.trans ((below_new_al (rsBlk k (.slice bo bl bc) (.slice tO tl tc) lo hi false (.slice none 0 0))).mono HB1.out.size))
    clear hno
    go_wp2_with fail
    go_ret2
    exact ⟨0, 9, D, rfl, RStep.of_below HH.out HBA.out, HNO.out⟩
  · have hal := below_new_al (w := w1) (rsBlk (toldS (bytesOf t)).k (.slice bo bl bc) (.slice tO tl tc) (toldS (bytesOf t)).lo (toldS (bytesOf t)).hi false (.slice none 0 0))
    have HBA := hid (HB1.out.trans (hal.mono HB1.out.size))
    have HBX := hid (heap_alloc_new w1 (rsBlk (toldS (bytesOf t)).k (.slice bo bl bc) (.slice tO tl tc) (toldS (bytesOf t)).lo (toldS (bytesOf t)).hi false (.slice none 0 0)))
    have hrs : RsOk (w1.alloc (rsBlk (toldS (bytesOf t)).k (.slice bo bl bc) (.slice tO tl tc) (toldS (bytesOf t)).lo (toldS (bytesOf t)).hi false (.slice none 0 0))) ⟨.slice bo bl bc, .slice tO tl tc, .slice none 0 0, bagL 0 (toldS (bytesOf t)).lv, (toldS (bytesOf t)).lo, (toldS (bytesOf t)).hi⟩ ⟨toldS (bytesOf t), false, []⟩ :=
      ⟨hB.below hal, bagL_of _, hT.below hal, World.ownsRow_nil _ _ _ _, fun _ => ⟨rfl, rfl⟩⟩
    have hown : ∀ b, (RRef.mk (.slice bo bl bc) (.slice tO tl tc) (.slice none 0 0) (bagL 0 (toldS (bytesOf t)).lv) (toldS (bytesOf t)).lo (toldS (bytesOf t)).hi).owns b → G b ∨ w.heap.size ≤ b := fun b hb => by
      rcases hb with e | e | e
      · exact .inr (hf b (.inl e))
      · exact .inr (hf b (.inr e))
      · simp [Value.ownBlock] at e
    by_cases hr : D.room ≤ D.sks.length
    · have HF := hid (ropened_full d (toldS (bytesOf t)).k (.slice bo bl bc) (.slice tO tl tc) (.slice none 0 0) (toldS (bytesOf t)).lo (toldS (bytesOf t)).hi false D _ (HH.out.below HBA.out) hr)
      have HREL : Hid (DecodeRel t D 0 3 D) := .inr ⟨hyes, .inl ⟨rfl, rfl, hr, rfl⟩⟩
      clear hB hT hf hyes hrs hown hal hr
      generalize (toldS (bytesOf t)).k = k at *
      generalize (toldS (bytesOf t)).lo = lo at *
      generalize (toldS (bytesOf t)).hi = hi at *
      go_upto_region 2 with fail
      obtain ⟨b0, b1, b2, b3, b4, b5, b6, bz⟩ := blk7' HBX.out
      have hbz := lt_of_blk' HBX.out
      go_wp2_with fail
      refine HF.out.mono ?_
      rintro e w2 ⟨rfl, hb2⟩
      have HB2 := hid (HBA.out.trans (hb2.mono HBA.out.size))
      clear hb2
      go_wp2_with fail
      go_ret2
      exact ⟨0, 3, D, rfl, RStep.of_below HH.out HB2.out, HREL.out⟩
    · have HF := hid (ropened_any d ⟨.slice bo bl bc, .slice tO tl tc, .slice none 0 0, bagL 0 (toldS (bytesOf t)).lv, (toldS (bytesOf t)).lo, (toldS (bytesOf t)).hi⟩ ⟨toldS (bytesOf t), false, []⟩ D w _ HH.out HBA.out hrs hown (by omega) HR2.out)
      have HREL : Hid (DecodeRel t D (D.sks.length : Int) 0 { D with sks := D.sks ++ [⟨toldS (bytesOf t), false, []⟩] }) := .inr ⟨hyes, .inr ⟨by omega, rfl, rfl, rfl⟩⟩
      simp only [] at HF
      clear hB hT hf hyes hrs hown hal hr
      generalize (⟨toldS (bytesOf t), false, []⟩ : Hd) = HDD at *
      generalize (toldS (bytesOf t)).k = k at *
      generalize (toldS (bytesOf t)).lo = lo at *
      generalize (toldS (bytesOf t)).hi = hi at *
      go_upto_region 2 with fail
      obtain ⟨b0, b1, b2, b3, b4, b5, b6, bz⟩ := blk7' HBX.out
      have hbz := lt_of_blk' HBX.out
      go_wp2_with fail
      refine HF.out.mono ?_
      rintro e w2 ⟨rfl, hst⟩
      have HST := hid hst
      clear hst
      go_wp2_with fail
      go_ret2
      exact ⟨_, _, _, rfl, HST.out, HREL.out⟩

end Go.Proofs.YtklicjbpjigfdabGreat

/- DERIVED. One step on both desks: Encode, Decode. -/
namespace Go.Proofs.YtklicjbpjigfdabGreat
open Go.RowKit
attribute [local go_sem ↓] Go.wp_at_zero Go.wp_at_succ

/-- What both answer: told by the desk and the argument alone. -/
def ETold (D : Dk) (A : Int) (x : ByteArray) (c : Int) : Prop := if hasB A D.sks.length then (x = txt (writeB (D.sks.getD A.toNat Hd.none).sk) ∧ c = 0) else (x = ⟨#[]⟩ ∧ c = 4)
theorem ETold.det {D : Dk} {A : Int} {x x' : ByteArray} {c c' : Int} (h : ETold D A x c) (k : ETold D A x' c') : x = x' ∧ c = c' := by
  unfold ETold at h k
  split at h
  · rename_i hs; rw [if_pos hs] at k; exact ⟨h.1.trans k.1.symm, h.2.trans k.2.symm⟩
  · rename_i hs; rw [if_neg hs] at k; exact ⟨h.1.trans k.1.symm, h.2.trans k.2.symm⟩
theorem encodeT {F : Nat → Prop} (d : Nat) (A : Int) (D : Dk) (w : World) (h : DeskAt F w d D) (hd : LInv D) :
    Calls Tryz.prog 51 #[.pointer (some ⟨d, 0, none⟩), .int .i64 A] w fun e w' => (∃ x c, e = .returned (.tuple #[.string x, .int .i64 c]) ∧ ETold D A x c) ∧ Below w.heap.size w w' := by
  cases hs : hasB A D.sks.length with
  | false =>
    refine (encode_no d D A w h hs).mono (fun e w' ⟨he, hw⟩ => ⟨⟨_, 4, he, ?_⟩, by rw [hw]; exact Below.refl _ _⟩)
    unfold ETold; rw [hs]; exact ⟨rfl, rfl⟩
  | true =>
    obtain ⟨i, rfl, hi⟩ := hasB_at hs
    refine (encode_any d D i w h hi (hd.inv.sk i hi).ok).mono (fun e w' ⟨he, hb⟩ => ⟨⟨_, 0, he, ?_⟩, hb⟩)
    unfold ETold; rw [hs, Int.toNat_natCast, if_pos rfl]; exact ⟨rfl, rfl⟩
theorem rencodeT {G : Nat → Prop} (d : Nat) (A : Int) (D : Dk) (w : World) (h : RAt G w d D) (hd : LInv D) :
    Calls Tryz.prog 52 #[.pointer (some ⟨d, 0, none⟩), .int .i64 A] w fun e w' => (∃ x c, e = .returned (.tuple #[.string x, .int .i64 c]) ∧ ETold D A x c) ∧ Below w.heap.size w w' := by
  cases hs : hasB A D.sks.length with
  | false =>
    refine (rencode_no d A D w h hs).mono (fun e w' ⟨he, hw⟩ => ⟨⟨_, 4, he, ?_⟩, by rw [hw]; exact Below.refl _ _⟩)
    unfold ETold; rw [hs]; exact ⟨rfl, rfl⟩
  | true =>
    obtain ⟨i, rfl, hi⟩ := hasB_at hs
    refine (rencode_any d i D w h hd hi).mono (fun e w' ⟨he, hb⟩ => ⟨⟨_, 0, he, ?_⟩, hb⟩)
    unfold ETold; rw [hs, Int.toNat_natCast, if_pos rfl]; exact ⟨rfl, rfl⟩

set_option maxHeartbeats 2000000 in
set_option maxRecDepth 100000 in
theorem lencode_any (p pd pr : Nat) (a b c : Int) (s : ByteArray) (vl : Value) (D : Dk) (M : List Le) (w0 w : World) (h : LwSt w0 w p pd pr D D M) (hd : LInv D) (hx : ∀ i, i < M.length → (M.getD i Le.none).xs.length ≤ 1099511627776) :
    Calls Tryz.prog 19 #[.pointer (some ⟨p, 0, none⟩), opVal 13 a b c s vl] w fun e w' => e = .returned (.bool true) ∧ StepPost w0 p pd pr M w' := by
  obtain ⟨F, G, hT, hpw⟩ := h.tell
  have b0 : (w.alloc (opBlk 13 a b c s vl)).drew.heap[w.heap.size]? = some (opBlk 13 a b c s vl) := heap_alloc_new w _
  have k0 : Below w.heap.size w (w.alloc (opBlk 13 a b c s vl)).drew := below_drewn (below_new_al _)
  obtain ⟨hdk, _, c0, _, hpz⟩ := hT _ k0
  have HF := hid (encodeT pd a D _ hdk hd)
  have HR2 := hid (fun (W : World) (hW : Below w.heap.size w W) => rencodeT pr a D W (hT W hW).2.1 hd)
  have HT1 : Hid (∀ W, Below w.heap.size w W → W.cell? ⟨p, 0, none⟩ = some (.pointer (some ⟨pd, 0, none⟩)) ∧ W.cell? ⟨p, 1, none⟩ = some (.pointer (some ⟨pr, 0, none⟩)) ∧ p < W.heap.size) := fun W hW => (hT W hW).2.2
  have HNU := hid (fun (v : Int) (W : World) => lnum_any v W)
  have HPO : Hid (∀ W, Below w.heap.size w W → StepPost w0 p pd pr M W) := fun W hW => StepPost.same (h.below hW) hd hx
  obtain ⟨q0, q1, q2, q3, q4, q5⟩ := blk6 b0
  have HB0 := hid b0
  have HK0 := hid k0
  have hqz := lt_of_blk' b0
  have hS0 : (w.alloc (opBlk 13 a b c s vl)).drew.cell? ⟨p, 0, none⟩ = some (.pointer (some ⟨pd, 0, none⟩)) ∧ (w.alloc (opBlk 13 a b c s vl)).drew.cell? ⟨w.heap.size, 1, none⟩ = some (.int .i64 a) := ⟨c0, q1⟩
  have c0' : (w.alloc (opBlk 13 a b c s vl)).cell? ⟨p, 0, none⟩ = some (.pointer (some ⟨pd, 0, none⟩)) := c0
  have hpz' : p < (w.alloc (opBlk 13 a b c s vl)).heap.size := hpz
  have HDET : Hid (∀ (x : ByteArray) (c : Int) (x' : ByteArray) (c' : Int), ETold D a x c → ETold D a x' c' → x = x' ∧ c = c') := fun _ _ _ _ h k => h.det k
  generalize ETold D a = QT at *
  clear h hT hdk hd hx b0 k0 c0 hpz q1 q2 q3 q4 q5
  go_enter Tryz.func19, Tryz.ntmps19
  go_wp2_with fail
  go_region_held3 (fun w' => w'.cell? ⟨p, 0, none⟩ = some (.pointer (some ⟨pd, 0, none⟩)) ∧ w'.cell? ⟨w.heap.size, 1, none⟩ = some (.int .i64 a)) (first | with_reducible exact hS0 | with_reducible exact hS3 | go_keep) (first | (go_at_call 51; refine HF.out.mono ?_; rintro e w1 ⟨⟨x1, c1, rfl, hq1⟩, hbb1⟩; have k1 := HK0.out.trans (hbb1.mono HK0.out.size); have b1 := (hbb1.block _ hqz).trans HB0.out; have hS3 : w1.cell? ⟨p, 0, none⟩ = some (.pointer (some ⟨pd, 0, none⟩)) ∧ w1.cell? ⟨w.heap.size, 1, none⟩ = some (.int .i64 a) := ⟨(HT1.out w1 k1).1, (blk6 b1).2.1⟩))
  have HK1 := hid (below_drewn k1)
  have HB1 : Hid (w1.drew.heap[w.heap.size]? = some (opBlk 13 a b c s vl)) := b1
  obtain ⟨d0, d1, hpz1⟩ := HT1.out w1 k1
  obtain ⟨y0, y1, y2, y3, y4, y5⟩ := blk6 b1
  have hqz1 := lt_of_blk' b1
  have hS0' : w1.drew.cell? ⟨p, 1, none⟩ = some (.pointer (some ⟨pr, 0, none⟩)) ∧ w1.drew.cell? ⟨w.heap.size, 1, none⟩ = some (.int .i64 a) := ⟨d1, y1⟩
  have HF2 := hid (HR2.out _ HK1.out)
  clear hS0 hS3 k1 b1 hbb1 HF HB0 y1 y2 y3 y4 y5 d0 q0 c0' hpz' HR2 HK0 hqz
  go_wp2_with fail
  go_region_held3 (fun w' => w'.cell? ⟨p, 1, none⟩ = some (.pointer (some ⟨pr, 0, none⟩)) ∧ w'.cell? ⟨w.heap.size, 1, none⟩ = some (.int .i64 a)) (first | with_reducible exact hS0' | with_reducible exact hS4 | go_keep) (first | (go_at_call 52; refine HF2.out.mono ?_; rintro e w2 ⟨⟨x2, c2, rfl, hq2⟩, hbb2⟩; have k2 := HK1.out.trans (hbb2.mono HK1.out.size); have b2 := (hbb2.block _ hqz1).trans HB1.out; have hS4 : w2.cell? ⟨p, 1, none⟩ = some (.pointer (some ⟨pr, 0, none⟩)) ∧ w2.cell? ⟨w.heap.size, 1, none⟩ = some (.int .i64 a) := ⟨(HT1.out w2 k2).2.1, (blk6 b2).2.1⟩))
  have HFIN := hid (HPO.out w2 k2)
  clear k2 b2 hbb2 hS4 hS0' HF2 HK1 HB1
  obtain ⟨ex, ec⟩ := HDET.out _ _ _ _ hq1 hq2
  subst ex
  subst ec
  have hb1 : (x1.toList == x1.toList) = true := bl_yes rfl
  have hb2 : (c1 == c1) = true := by simp
  clear hq1 hq2 HDET
  go_wp2_with (go_at_call 11; refine (HNU.out _ _).mono ?_; rintro e w' ⟨rfl, hw⟩; obtain rfl := hw.symm)
  go_ret
  exact ⟨rfl, HFIN.out⟩

set_option maxHeartbeats 2000000 in
set_option maxRecDepth 100000 in
theorem ldecode_any (p pd pr : Nat) (a b c : Int) (s : ByteArray) (vl : Value) (D : Dk) (M : List Le) (w0 w : World) (h : LwSt w0 w p pd pr D D M) (hd : LInv D) (hx : ∀ i, i < M.length → (M.getD i Le.none).xs.length ≤ 1099511627776) (hs : s.size ≤ 140737488355328) :
    Calls Tryz.prog 19 #[.pointer (some ⟨p, 0, none⟩), opVal 14 a b c s vl] w fun e w' => e = .returned (.bool true) ∧ StepPost w0 p pd pr M w' := by
  have k0 := (h.box (opBlk 14 a b c s vl)).drew
  have b0 : (w.alloc (opBlk 14 a b c s vl)).drew.heap[w.heap.size]? = some (opBlk 14 a b c s vl) := heap_alloc_new w _
  obtain ⟨F, hdk, hstep⟩ := k0.prog
  have HF := hid (decodeT pd s D _ hdk hd.inv hs)
  have HST := hid hstep
  obtain ⟨c0, c1, hpz, hqz⟩ := k0.cells
  obtain ⟨q0, q1, q2, q3, q4, q5⟩ := blk6 b0
  have HB0 := hid b0
  have HR2 := hid (fun (G : Nat → Prop) (W : World) (hr : RAt G W pr D) => rdecodeT pr s D W hr hd hs)
  have HNU := hid (fun (v : Int) (W : World) => lnum_any v W)
  have HLI := hid hd
  have HX := hid hx
  have hS0 : (w.alloc (opBlk 14 a b c s vl)).drew.cell? ⟨p, 0, none⟩ = some (.pointer (some ⟨pd, 0, none⟩)) ∧ (w.alloc (opBlk 14 a b c s vl)).drew.cell? ⟨w.heap.size, 4, none⟩ = some (.string s) := ⟨c0, q4⟩
  have c0' : (w.alloc (opBlk 14 a b c s vl)).cell? ⟨p, 0, none⟩ = some (.pointer (some ⟨pd, 0, none⟩)) := c0
  have hpz' : p < (w.alloc (opBlk 14 a b c s vl)).heap.size := hpz
  clear h k0 hdk hstep hd hx b0 c0 c1 hpz q1 q2 q3 q5
  go_enter Tryz.func19, Tryz.ntmps19
  go_wp2_with fail
  go_region_held3 (fun w' => w'.cell? ⟨p, 0, none⟩ = some (.pointer (some ⟨pd, 0, none⟩)) ∧ w'.cell? ⟨w.heap.size, 4, none⟩ = some (.string s)) (first | with_reducible exact hS0 | with_reducible exact hS3 | go_keep) (first | (go_at_call 53; refine HF.out.mono ?_; rintro e w1 ⟨v1, c1, D1, rfl, hst1, hr1⟩; obtain ⟨k1, e1⟩ := HST.out w1 D1 hst1; have b1 := e1.trans HB0.out; have hS3 : w1.cell? ⟨p, 0, none⟩ = some (.pointer (some ⟨pd, 0, none⟩)) ∧ w1.cell? ⟨w.heap.size, 4, none⟩ = some (.string s) := ⟨k1.cells.1, (blk6 b1).2.2.2.2.1⟩))
  have HK1 := hid k1.drew
  have HB1 : Hid (w1.drew.heap[w.heap.size]? = some (opBlk 14 a b c s vl)) := b1
  have HRL1 := hid hr1
  obtain ⟨d0, d1, hpz1, hqz1⟩ := k1.cells
  obtain ⟨y0, y1, y2, y3, y4, y5⟩ := blk6 b1
  have hS0' : w1.drew.cell? ⟨p, 1, none⟩ = some (.pointer (some ⟨pr, 0, none⟩)) ∧ w1.drew.cell? ⟨w.heap.size, 4, none⟩ = some (.string s) := ⟨d1, y4⟩
  clear hS0 hS3 k1 e1 b1 hr1 hst1 HF HST HB0 y1 y2 y3 y5 d0 q0 q4 c0' hpz'
  obtain ⟨G, hra, hstep2⟩ := HK1.out.doc
  have HF2 := hid (HR2.out G _ hra)
  have HST2 := hid hstep2
  clear hra hstep2 HR2
  go_wp2_with fail
  go_region_held3 (fun w' => w'.cell? ⟨p, 1, none⟩ = some (.pointer (some ⟨pr, 0, none⟩)) ∧ w'.cell? ⟨w.heap.size, 4, none⟩ = some (.string s)) (first | with_reducible exact hS0' | with_reducible exact hS4 | go_keep) (first | (go_at_call 54; refine HF2.out.mono ?_; rintro e w2 ⟨v2, c2, D2, rfl, hst2, hr2⟩; obtain ⟨k2, e2⟩ := HST2.out w2 D2 hst2; have b2 := e2.trans HB1.out; have hS4 : w2.cell? ⟨p, 1, none⟩ = some (.pointer (some ⟨pr, 0, none⟩)) ∧ w2.cell? ⟨w.heap.size, 4, none⟩ = some (.string s) := ⟨k2.cells.2.1, (blk6 b2).2.2.2.2.1⟩))
  obtain ⟨hvv, hcc, hDD⟩ := HRL1.out.det hr2
  subst hvv
  subst hcc
  subst hDD
  have HFIN : Hid (StepPost w0 p pd pr M w2) := StepPost.same k2.st (hr2.linv HLI.out) HX.out
  clear k2 e2 b2 hr2 hst2 hS4 hS0' HST2 HF2 HK1 HB1 HRL1
  have hcb : (c1 == c1) = true := by simp
  have hvb : (v1 == v1) = true := by simp
  go_wp2_with (go_at_call 11; refine (HNU.out _ _).mono ?_; rintro e w' ⟨rfl, hw⟩; obtain rfl := hw.symm)
  go_ret
  exact ⟨rfl, HFIN.out⟩

end Go.Proofs.YtklicjbpjigfdabGreat

/- DERIVED. One step on both desks: kinds up to 14, and what the caller writes. -/
namespace Go.Proofs.YtklicjbpjigfdabGreat
open Go.RowKit
attribute [local go_sem ↓] Go.wp_at_zero Go.wp_at_succ
set_option linter.unusedVariables false

set_option maxHeartbeats 1000000 in
theorem step13_any (p pd pr : Nat) (a b c : Int) (s : ByteArray) (lo : Option Addr) (ln lc : Nat) (C : List Int) (D : Dk) (M : List Le) (w0 w : World) (hC : IntsG w lo ln C) (hl : ln ≤ 17592186044416) (h : LwSt w0 w p pd pr D D M) (hd : LInv D) (hx : ∀ i, i < M.length → (M.getD i Le.none).xs.length ≤ 1099511627776) (hm : M.length ≤ 4398046511104) (hs : s.size ≤ 140737488355328) (ha : -9223372036854775808 ≤ a ∧ a ≤ 9223372036854775807) (hb : -9223372036854775808 ≤ b ∧ b ≤ 9223372036854775807) :
    Calls Tryz.prog 7 #[.pointer (some ⟨p, 0, none⟩), opVal 13 a b c s (.slice lo ln lc)] w fun e w' => e = .returned (.bool true) ∧ StepPost w0 p pd pr M w' := by
  have hA := h.below (below_new_al (opBlk 13 a b c s (.slice lo ln lc)))
  have hCA := hC.below (below_new_al (opBlk 13 a b c s (.slice lo ln lc)))
  have HC := hid (lencode_any p pd pr a b c s (.slice lo ln lc) D M w0 _ hA hd hx)
  clear h hd hx hm hs ha hb hA hC hCA hl
  go_enter Tryz.func7, Tryz.ntmps7
  go_wp2_with fail
  refine HC.out.mono ?_
  rintro e w1 ⟨rfl, hsp⟩
  have HSP := hid hsp
  clear hsp HC
  go_wp2_with fail
  go_ret
  exact ⟨rfl, HSP.out⟩

set_option maxHeartbeats 1000000 in
theorem step14_any (p pd pr : Nat) (a b c : Int) (s : ByteArray) (lo : Option Addr) (ln lc : Nat) (C : List Int) (D : Dk) (M : List Le) (w0 w : World) (hC : IntsG w lo ln C) (hl : ln ≤ 17592186044416) (h : LwSt w0 w p pd pr D D M) (hd : LInv D) (hx : ∀ i, i < M.length → (M.getD i Le.none).xs.length ≤ 1099511627776) (hm : M.length ≤ 4398046511104) (hs : s.size ≤ 140737488355328) (ha : -9223372036854775808 ≤ a ∧ a ≤ 9223372036854775807) (hb : -9223372036854775808 ≤ b ∧ b ≤ 9223372036854775807) :
    Calls Tryz.prog 7 #[.pointer (some ⟨p, 0, none⟩), opVal 14 a b c s (.slice lo ln lc)] w fun e w' => e = .returned (.bool true) ∧ StepPost w0 p pd pr M w' := by
  have hA := h.below (below_new_al (opBlk 14 a b c s (.slice lo ln lc)))
  have hCA := hC.below (below_new_al (opBlk 14 a b c s (.slice lo ln lc)))
  have HC := hid (ldecode_any p pd pr a b c s (.slice lo ln lc) D M w0 _ hA hd hx hs)
  clear h hd hx hm hs ha hb hA hC hCA hl
  go_enter Tryz.func7, Tryz.ntmps7
  go_wp2_with fail
  refine HC.out.mono ?_
  rintro e w1 ⟨rfl, hsp⟩
  have HSP := hid hsp
  clear hsp HC
  go_wp2_with fail
  go_ret
  exact ⟨rfl, HSP.out⟩

theorem stepC_any (p pd pr : Nat) (kd : Int) (a b c : Int) (s : ByteArray) (lo : Option Addr) (ln lc : Nat) (C : List Int) (D : Dk) (M : List Le) (w0 w : World) (hC : IntsG w lo ln C) (hl : ln ≤ 17592186044416) (h : LwSt w0 w p pd pr D D M) (hd : LInv D) (hx : ∀ i, i < M.length → (M.getD i Le.none).xs.length ≤ 1099511627776) (hm : M.length ≤ 4398046511104) (hs : s.size ≤ 140737488355328) (ha : -9223372036854775808 ≤ a ∧ a ≤ 9223372036854775807) (hb : -9223372036854775808 ≤ b ∧ b ≤ 9223372036854775807) (hk : kd ≤ 14 ∨ kd = 17) :
    Calls Tryz.prog 7 #[.pointer (some ⟨p, 0, none⟩), opVal kd a b c s (.slice lo ln lc)] w fun e w' => e = .returned (.bool true) ∧ StepPost w0 p pd pr M w' := by
  by_cases h1 : kd ≤ 12 ∨ kd = 17
  · exact stepB_any p pd pr kd a b c s lo ln lc C D M w0 w hC hl h hd hx hm hs ha hb h1
  · have h2 : kd = 13 ∨ kd = 14 := by omega
    rcases h2 with rfl | rfl
    · exact step13_any p pd pr a b c s lo ln lc C D M w0 w hC hl h hd hx hm hs ha hb
    · exact step14_any p pd pr a b c s lo ln lc C D M w0 w hC hl h hd hx hm hs ha hb

end Go.Proofs.YtklicjbpjigfdabGreat

/- DERIVED. The walk of the document's own Take. -/
namespace Go.Proofs.YtklicjbpjigfdabGreat
open Go.RowKit
attribute [local go_sem ↓] Go.wp_at_zero Go.wp_at_succ
variable {G : Nat → Prop}

theorem Tryz.infoRep : (Tryz.prog.info? 134).map (fun i => (i.zero, i.size, i.bytes)) = some (some (.agg #[.int .i64 0, .int .i64 0]), 2, 16) := by kernel_rfl
theorem RStep.andThen {G1 : Nat → Prop} {w w2 w3 : World} {d : Nat} {D2 : Dk} (hsub : ∀ x, G1 x → G x ∨ w.heap.size ≤ x) (hfr : Fr G w w2) (h : RStep G1 w2 w3 d D2) : RStep G w w3 d D2 := by
  obtain ⟨G2, hR2, hsub2, hfr2⟩ := h
  refine ⟨G2, hR2, fun b hb => ?_, hfr.trans hfr2 (fun x hx h1 => ?_)⟩
  · rcases hsub2 b hb with h1 | h1
    · exact hsub b h1
    · exact .inr (Nat.le_trans hfr.size h1)
  · rcases hsub x h1 with h2 | h2
    · exact h2
    · omega
/-- How a row of reports lies. -/
theorem tk_form {w : World} {v : Value} {l : List (Nat × Nat)} (h : w.ownsRow 0 134 2 v l.length (tkCells l)) : ∃ ao c, v = .slice ao l.length c ∧ ∀ j, j < l.length → ∃ g, ao = some ⟨g, 0, none⟩ ∧ (∃ cc, w.heap[g]? = some (.cells cc 134 (0, 0))) ∧ w.cell? ⟨g, j * 2, none⟩ = some (.int .i64 ((l.getD j (0, 0)).1 : Int)) ∧ w.cell? ⟨g, j * 2 + 1, none⟩ = some (.int .i64 ((l.getD j (0, 0)).2 : Int)) := by
  have h' := h
  rcases h.2 with ⟨e, hn⟩ | ⟨g, cap, cur, e, hg, hh, hnc, hcm, hcs, ht⟩
  · refine ⟨none, 0, by rw [e, hn], fun j hj => by omega⟩
  · refine ⟨some ⟨g, 0, none⟩, cap, e, fun j hj => ⟨g, rfl, ⟨_, hh⟩, ?_, ?_⟩⟩
    · rw [e] at h'
      exact ownsRow_cell h' (tkCells_at l j hj).1
    · rw [e] at h'
      exact ownsRow_cell h' (tkCells_at l j hj).2
theorem tkCells_one : ∀ (x y : Nat), ∀ u ∈ tkCells [(x, y)], u.oneCell' = true := by
  intro x y u hu
  simp only [tkCells, List.mem_cons, List.not_mem_nil, or_false] at hu
  rcases hu with rfl | rfl <;> rfl
theorem two_tk (w : World) (x y : Nat) (t : TypeId) : ∀ j u, (tkCells [(x, y)])[j]? = some u → (w.alloc (.cells #[.int .i64 (x : Int), .int .i64 (y : Int)] t)).cell? ((⟨w.heap.size, 0, none⟩ : Addr).add j) = some u := two_new w _ _ t

set_option maxHeartbeats 400000 in
theorem rtake_no (d : Nat) (A B C : Int) (t : ByteArray) (D : Dk) (w : World) (h : RAt G w d D) (hs : hasB A D.sks.length = false) :
    Calls Tryz.prog 36 #[.pointer (some ⟨d, 0, none⟩), .int .i64 A, .int .i64 B, .int .i64 C, .string t] w fun e w' => e = .returned (.int .i64 4) ∧ w' = w := by
  obtain ⟨s, va, rs, h⟩ := h
  have HH := hid (rhas d A D s va rs _ h)
  rw [hs] at HH
  clear h
  go_enter Tryz.func36, Tryz.ntmps36
  go_wp2_with (go_at_call 63; refine HH.out.mono ?_; rintro e w' ⟨rfl, hw⟩; obtain rfl := hw.symm)
  go_ret
  exact ⟨rfl, rfl⟩

set_option maxHeartbeats 1000000 in
theorem rtake_sealed (d i : Nat) (B C : Int) (t : ByteArray) (D : Dk) (w : World) (h : RAt G w d D) (hi : i < D.sks.length) (hse : (D.sks.getD i Hd.none).sealed = true) :
    Calls Tryz.prog 36 #[.pointer (some ⟨d, 0, none⟩), .int .i64 (i : Int), .int .i64 B, .int .i64 C, .string t] w fun e w' => e = .returned (.int .i64 5) ∧ w' = w := by
  obtain ⟨s, va, rs, h⟩ := h
  have HH := hid (rhas d (i : Int) D s va rs _ h)
  rw [hasB_nat hi] at HH
  obtain ⟨g, c, rfl, hg, q0, q1, q2, q3, q4, q5, q6, qz⟩ := h.cells7 hi
  obtain ⟨c0, c1, c2, cz⟩ := blk3 h.blk
  have hdz := lt_of_blk' h.blk
  rw [hse] at q5
  have hs2 : (i : Int) < (D.sks.length : Int) := by omega
  generalize D.sks.length = n at *
  clear h q0 q1 q2 q3 q4 q6
  go_enter Tryz.func36, Tryz.ntmps36
  go_wp2_with (go_at_call 63; refine HH.out.mono ?_; rintro e w' ⟨rfl, hw⟩; obtain rfl := hw.symm)
  go_ret
  exact ⟨rfl, rfl⟩

set_option maxHeartbeats 1000000 in
theorem rtake_arg (d i : Nat) (B C : Int) (t : ByteArray) (D : Dk) (w : World) (h : RAt G w d D) (hi : i < D.sks.length) (hse : (D.sks.getD i Hd.none).sealed = false) (hr : ¬ (0 ≤ B ∧ B ≤ 255 ∧ 0 ≤ C)) :
    Calls Tryz.prog 36 #[.pointer (some ⟨d, 0, none⟩), .int .i64 (i : Int), .int .i64 B, .int .i64 C, .string t] w fun e w' => e = .returned (.int .i64 1) ∧ w' = w := by
  obtain ⟨s, va, rs, h⟩ := h
  have HH := hid (rhas d (i : Int) D s va rs _ h)
  rw [hasB_nat hi] at HH
  obtain ⟨g, c, rfl, hg, q0, q1, q2, q3, q4, q5, q6, qz⟩ := h.cells7 hi
  obtain ⟨c0, c1, c2, cz⟩ := blk3 h.blk
  have hdz := lt_of_blk' h.blk
  rw [hse] at q5
  have hs2 : (i : Int) < (D.sks.length : Int) := by omega
  generalize D.sks.length = n at *
  clear h q0 q1 q2 q3 q4 q6
  by_cases h1 : B < 0
  · have h1' : decide (B < 0) = true := decide_eq_true h1
    go_enter Tryz.func36, Tryz.ntmps36
    go_wp2_with (go_at_call 63; refine HH.out.mono ?_; rintro e w' ⟨rfl, hw⟩; obtain rfl := hw.symm)
    go_ret
    exact ⟨rfl, rfl⟩
  have h1' : decide (B < 0) = false := decide_eq_false h1
  by_cases h2 : 255 < B
  · have h2' : decide (255 < B) = true := decide_eq_true h2
    go_enter Tryz.func36, Tryz.ntmps36
    go_wp2_with (go_at_call 63; refine HH.out.mono ?_; rintro e w' ⟨rfl, hw⟩; obtain rfl := hw.symm)
    go_ret
    exact ⟨rfl, rfl⟩
  have h2' : decide (255 < B) = false := decide_eq_false h2
  have h3 : C < 0 := by omega
  have h3' : decide (C < 0) = true := decide_eq_true h3
  go_enter Tryz.func36, Tryz.ntmps36
  go_wp2_with (go_at_call 63; refine HH.out.mono ?_; rintro e w' ⟨rfl, hw⟩; obtain rfl := hw.symm)
  go_ret
  exact ⟨rfl, rfl⟩

end Go.Proofs.YtklicjbpjigfdabGreat
