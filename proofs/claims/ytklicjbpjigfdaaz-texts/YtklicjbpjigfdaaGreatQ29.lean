/- DERIVED. The document's own desk: Encode, Decode. -/
import Derived.Test.YtklicjbpjigfdaaGreatQ28
import Derived.Test.YtklicjbpjigfdaaGreatQ20
import Derived.Test.YtklicjbpjigfdaaGreatQ19
import Derived.Test.YtklicjbpjigfdaaGreatQ22
import Derived.Test.YtklicjbpjigfdaaGreatLawS
import Derived.Test.YtklicjbpjigfdaaGreatQ26
import Derived.Test.YtklicjbpjigfdaaGreatQ23
import Derived.Deep.Cut
import Derived.Deep.CutRange
namespace Go.Proofs.YtklicjbpjigfdaaGreat
open Go.RowKit
attribute [local go_sem ↓] Go.wp_at_zero Go.wp_at_succ
variable {G : Nat → Prop}

/-- The ends are written only where there are items. -/
theorem write_ends {s : Sk} {lo hi : Int} (h : wsum s.lv ≠ 0 → lo = s.lo ∧ hi = s.hi) : writeB ⟨s.k, s.lv, lo, hi⟩ = writeB s := by
  by_cases hw : wsum s.lv = 0
  · have e : bodyB ⟨s.k, s.lv, lo, hi⟩ = bodyB s := by
      unfold bodyB endsB
      simp only [hw, if_true]
    rw [writeB_eq, writeB_eq, e]
  · obtain ⟨rfl, rfl⟩ := h hw
    rfl

set_option maxHeartbeats 400000 in
theorem rencode_no (d : Nat) (A : Int) (D : Dk) (w : World) (h : RAt G w d D) (hs : hasB A D.sks.length = false) :
    Calls Tryz.prog 54 #[.pointer (some ⟨d, 0, none⟩), .int .i64 A] w fun e w' => e = .returned (.tuple #[.string ⟨#[]⟩, .int .i64 4]) ∧ w' = w := by
  obtain ⟨s, va, rs, h⟩ := h
  have HH := hid (rhas d A D s va rs _ h)
  rw [hs] at HH
  clear h
  go_enter Tryz.func54, Tryz.ntmps54
  go_wp2_with (go_at_call 65; refine HH.out.mono ?_; rintro e w' ⟨rfl, hw⟩; obtain rfl := hw.symm)
  go_ret2
  exact ⟨rfl, rfl⟩

set_option maxHeartbeats 1000000 in
theorem rencode_any (d i : Nat) (D : Dk) (w : World) (h : RAt G w d D) (hd : LInv D) (hi : i < D.sks.length) :
    Calls Tryz.prog 54 #[.pointer (some ⟨d, 0, none⟩), .int .i64 (i : Int)] w fun e w' => e = .returned (.tuple #[.string (txt (writeB (D.sks.getD i Hd.none).sk)), .int .i64 0]) ∧ Below w.heap.size w w' := by
  obtain ⟨s, va, rs, h⟩ := h
  have HH := hid (rhas d (i : Int) D s va rs _ h)
  rw [hasB_nat hi] at HH
  obtain ⟨g, c, rfl, hg, q0, q1, q2, q3, q4, q5, q6, qz⟩ := h.cells7 hi
  obtain ⟨c0, c1, c2, cz⟩ := blk3 h.blk
  have hdz := lt_of_blk' h.blk
  have hk := h.sk i hi
  have hok := (hd.inv.sk i hi).ok
  obtain ⟨hbl, hlow⟩ := h.bagLen hd hi
  obtain ⟨bo, bl, bc, tO, tl, tc, ko, kl, kc, e1, e2, e3, e4, e5⟩ := hk.forms
  have HTX := hid (rtext_any _ (D.sks.getD i Hd.none).sk.k (.slice bo bl bc) (.slice tO tl tc) (.slice ko kl kc) (rs.getD i RRef.none).lo (rs.getD i RRef.none).hi (D.sks.getD i Hd.none).sealed (rs.getD i RRef.none).bag (D.sks.getD i Hd.none).sk.lv w (by rw [← e1]; exact hk.bag) (by rw [← e2]; exact hk.tms) hk.bof (hd.ok i hi).srt hbl (by have := hok.k2; omega) (by have := hok.len; omega) (fun j => by have := hok.tms j; omega))
  rw [write_ends (s := (D.sks.getD i Hd.none).sk) (fun hw => hk.ends (fun e => hw (by rw [wsum_zero, ← hk.bof.nsum, e]; rfl)))] at HTX
  rw [e1] at q1
  rw [e2] at q2
  rw [e3] at q6
  have hs2 : (i : Int) < (D.sks.length : Int) := by omega
  generalize writeB (D.sks.getD i Hd.none).sk = WB at *
  generalize D.sks.length = n at *
  generalize (D.sks.getD i Hd.none).sk.k = k at *
  generalize (D.sks.getD i Hd.none).sealed = sl at *
  generalize (rs.getD i RRef.none).lo = lo at *
  generalize (rs.getD i RRef.none).hi = hh at *
  clear h hk e1 e2 e3 e4 e5 hbl hlow hok
  go_enter Tryz.func54, Tryz.ntmps54
  go_wp2_with (go_at_call 65; refine HH.out.mono ?_; rintro e w' ⟨rfl, hw⟩; obtain rfl := hw.symm)
  refine HTX.out.mono ?_
  rintro e w2 ⟨rfl, hb2⟩
  have HB2 := hid hb2
  clear hb2
  go_wp2_with fail
  go_ret2
  exact ⟨rfl, HB2.out⟩

set_option maxHeartbeats 2000000 in
set_option maxRecDepth 100000 in
theorem rdecodeT (d : Nat) (t : ByteArray) (D : Dk) (w : World) (h : RAt G w d D) (hd : LInv D) (ht : t.size ≤ 140737488355328) :
    Calls Tryz.prog 56 #[.pointer (some ⟨d, 0, none⟩), .string t] w fun e w' => ∃ v c D', e = .returned (.tuple #[.int .i64 v, .int .i64 c]) ∧ RStep G w w' d D' ∧ DecodeRel t D v c D' := by
  have HRD := hid (rread_any t w ht)
  have HH := hid h
  have HR2 := hid hd.inv.room2
  clear h hd
  go_enter Tryz.func56, Tryz.ntmps56
  go_wp2_with fail
  refine HRD.out.mono ?_
  rintro e w1 ⟨hans, hb1⟩
  have HB1 := hid hb1
  clear hb1 HRD
  rcases hans with ⟨hno, k, bo, bl, bc, tO, tl, tc, lo, hi, rfl⟩ | ⟨hyes, bo, bl, bc, tO, tl, tc, rfl, hB, hT, hf⟩
  · have HNO : Hid (DecodeRel t D 0 9 D) := .inl ⟨rfl, rfl, hno, rfl⟩
    have HBA := hid (HB1.out.trans ((below_new_al (rsBlk k (.slice bo bl bc) (.slice tO tl tc) lo hi false (.slice none 0 0))).mono HB1.out.size))
    clear hno
    go_wp2_with fail
    go_ret2
    exact ⟨0, 9, D, rfl, RStep.of_below HH.out HBA.out, HNO.out⟩
  · have hal := below_new_al (w := w1) (rsBlk (toldS (bytesOf t)).k (.slice bo bl bc) (.slice tO tl tc) (toldS (bytesOf t)).lo (toldS (bytesOf t)).hi false (.slice none 0 0))
    have HBA := hid (HB1.out.trans (hal.mono HB1.out.size))
    have HBX := hid (heap_alloc_new w1 (rsBlk (toldS (bytesOf t)).k (.slice bo bl bc) (.slice tO tl tc) (toldS (bytesOf t)).lo (toldS (bytesOf t)).hi false (.slice none 0 0)))
    have hrs : RsOk (w1.alloc (rsBlk (toldS (bytesOf t)).k (.slice bo bl bc) (.slice tO tl tc) (toldS (bytesOf t)).lo (toldS (bytesOf t)).hi false (.slice none 0 0))) ⟨.slice bo bl bc, .slice tO tl tc, .slice none 0 0, bagL 0 (toldS (bytesOf t)).lv, (toldS (bytesOf t)).lo, (toldS (bytesOf t)).hi⟩ ⟨toldS (bytesOf t), false, []⟩ :=
      ⟨hB.below hal, bagL_of _, hT.below hal, World.ownsRow_nil _ _ _ _, fun _ => ⟨rfl, rfl⟩⟩
    have hown : ∀ b, (RRef.mk (.slice bo bl bc) (.slice tO tl tc) (.slice none 0 0) (bagL 0 (toldS (bytesOf t)).lv) (toldS (bytesOf t)).lo (toldS (bytesOf t)).hi).owns b → G b ∨ w.heap.size ≤ b := fun b hb => by
      rcases hb with e | e | e
      · exact .inr (hf b (.inl e))
      · exact .inr (hf b (.inr e))
      · simp [Value.ownBlock] at e
    by_cases hr : D.room ≤ D.sks.length
    · have HF := hid (ropened_full d (toldS (bytesOf t)).k (.slice bo bl bc) (.slice tO tl tc) (.slice none 0 0) (toldS (bytesOf t)).lo (toldS (bytesOf t)).hi false D _ (HH.out.below HBA.out) hr)
      have HREL : Hid (DecodeRel t D 0 3 D) := .inr ⟨hyes, .inl ⟨rfl, rfl, hr, rfl⟩⟩
      clear hB hT hf hyes hrs hown hal hr
      generalize (toldS (bytesOf t)).k = k at *
      generalize (toldS (bytesOf t)).lo = lo at *
      generalize (toldS (bytesOf t)).hi = hi at *
      go_upto_region 2 with fail
      obtain ⟨b0, b1, b2, b3, b4, b5, b6, bz⟩ := blk7' HBX.out
      have hbz := lt_of_blk' HBX.out
      go_wp2_with fail
      refine HF.out.mono ?_
      rintro e w2 ⟨rfl, hb2⟩
      have HB2 := hid (HBA.out.trans (hb2.mono HBA.out.size))
      clear hb2
      go_wp2_with fail
      go_ret2
      exact ⟨0, 3, D, rfl, RStep.of_below HH.out HB2.out, HREL.out⟩
    · have HF := hid (ropened_any d ⟨.slice bo bl bc, .slice tO tl tc, .slice none 0 0, bagL 0 (toldS (bytesOf t)).lv, (toldS (bytesOf t)).lo, (toldS (bytesOf t)).hi⟩ ⟨toldS (bytesOf t), false, []⟩ D w _ HH.out HBA.out hrs hown (by omega) HR2.out)
      have HREL : Hid (DecodeRel t D (D.sks.length : Int) 0 { D with sks := D.sks ++ [⟨toldS (bytesOf t), false, []⟩] }) := .inr ⟨hyes, .inr ⟨by omega, rfl, rfl, rfl⟩⟩
      simp only [] at HF
      clear hB hT hf hyes hrs hown hal hr
      generalize (⟨toldS (bytesOf t), false, []⟩ : Hd) = HDD at *
      generalize (toldS (bytesOf t)).k = k at *
      generalize (toldS (bytesOf t)).lo = lo at *
      generalize (toldS (bytesOf t)).hi = hi at *
      go_upto_region 2 with fail
      obtain ⟨b0, b1, b2, b3, b4, b5, b6, bz⟩ := blk7' HBX.out
      have hbz := lt_of_blk' HBX.out
      go_wp2_with fail
      refine HF.out.mono ?_
      rintro e w2 ⟨rfl, hst⟩
      have HST := hid hst
      clear hst
      go_wp2_with fail
      go_ret2
      exact ⟨_, _, _, rfl, HST.out, HREL.out⟩

end Go.Proofs.YtklicjbpjigfdaaGreat

/- DERIVED. One step on both desks: Encode, Decode. -/
namespace Go.Proofs.YtklicjbpjigfdaaGreat
open Go.RowKit
attribute [local go_sem ↓] Go.wp_at_zero Go.wp_at_succ

/-- What both answer: told by the desk and the argument alone. -/
def ETold (D : Dk) (A : Int) (x : ByteArray) (c : Int) : Prop := if hasB A D.sks.length then (x = txt (writeB (D.sks.getD A.toNat Hd.none).sk) ∧ c = 0) else (x = ⟨#[]⟩ ∧ c = 4)
theorem ETold.det {D : Dk} {A : Int} {x x' : ByteArray} {c c' : Int} (h : ETold D A x c) (k : ETold D A x' c') : x = x' ∧ c = c' := by
  unfold ETold at h k
  split at h
  · rename_i hs; rw [if_pos hs] at k; exact ⟨h.1.trans k.1.symm, h.2.trans k.2.symm⟩
  · rename_i hs; rw [if_neg hs] at k; exact ⟨h.1.trans k.1.symm, h.2.trans k.2.symm⟩
theorem encodeT {F : Nat → Prop} (d : Nat) (A : Int) (D : Dk) (w : World) (h : DeskAt F w d D) (hd : LInv D) :
    Calls Tryz.prog 53 #[.pointer (some ⟨d, 0, none⟩), .int .i64 A] w fun e w' => (∃ x c, e = .returned (.tuple #[.string x, .int .i64 c]) ∧ ETold D A x c) ∧ Below w.heap.size w w' := by
  cases hs : hasB A D.sks.length with
  | false =>
    refine (encode_no d D A w h hs).mono (fun e w' ⟨he, hw⟩ => ⟨⟨_, 4, he, ?_⟩, by rw [hw]; exact Below.refl _ _⟩)
    unfold ETold; rw [hs]; exact ⟨rfl, rfl⟩
  | true =>
    obtain ⟨i, rfl, hi⟩ := hasB_at hs
    refine (encode_any d D i w h hi (hd.inv.sk i hi).ok).mono (fun e w' ⟨he, hb⟩ => ⟨⟨_, 0, he, ?_⟩, hb⟩)
    unfold ETold; rw [hs, Int.toNat_natCast, if_pos rfl]; exact ⟨rfl, rfl⟩
theorem rencodeT {G : Nat → Prop} (d : Nat) (A : Int) (D : Dk) (w : World) (h : RAt G w d D) (hd : LInv D) :
    Calls Tryz.prog 54 #[.pointer (some ⟨d, 0, none⟩), .int .i64 A] w fun e w' => (∃ x c, e = .returned (.tuple #[.string x, .int .i64 c]) ∧ ETold D A x c) ∧ Below w.heap.size w w' := by
  cases hs : hasB A D.sks.length with
  | false =>
    refine (rencode_no d A D w h hs).mono (fun e w' ⟨he, hw⟩ => ⟨⟨_, 4, he, ?_⟩, by rw [hw]; exact Below.refl _ _⟩)
    unfold ETold; rw [hs]; exact ⟨rfl, rfl⟩
  | true =>
    obtain ⟨i, rfl, hi⟩ := hasB_at hs
    refine (rencode_any d i D w h hd hi).mono (fun e w' ⟨he, hb⟩ => ⟨⟨_, 0, he, ?_⟩, hb⟩)
    unfold ETold; rw [hs, Int.toNat_natCast, if_pos rfl]; exact ⟨rfl, rfl⟩

set_option maxHeartbeats 2000000 in
set_option maxRecDepth 100000 in
theorem lencode_any (p pd pr : Nat) (a b c : Int) (s : ByteArray) (vl : Value) (D : Dk) (M : List Le) (w0 w : World) (h : LwSt w0 w p pd pr D D M) (hd : LInv D) (hx : ∀ i, i < M.length → (M.getD i Le.none).xs.length ≤ 1099511627776) :
    Calls Tryz.prog 21 #[.pointer (some ⟨p, 0, none⟩), opVal 13 a b c s vl] w fun e w' => e = .returned (.bool true) ∧ StepPost w0 p pd pr M w' := by
  obtain ⟨F, G, hT, hpw⟩ := h.tell
  have b0 : (w.alloc (opBlk 13 a b c s vl)).drew.heap[w.heap.size]? = some (opBlk 13 a b c s vl) := heap_alloc_new w _
  have k0 : Below w.heap.size w (w.alloc (opBlk 13 a b c s vl)).drew := below_drewn (below_new_al _)
  obtain ⟨hdk, _, c0, _, hpz⟩ := hT _ k0
  have HF := hid (encodeT pd a D _ hdk hd)
  have HR2 := hid (fun (W : World) (hW : Below w.heap.size w W) => rencodeT pr a D W (hT W hW).2.1 hd)
  have HT1 : Hid (∀ W, Below w.heap.size w W → W.cell? ⟨p, 0, none⟩ = some (.pointer (some ⟨pd, 0, none⟩)) ∧ W.cell? ⟨p, 1, none⟩ = some (.pointer (some ⟨pr, 0, none⟩)) ∧ p < W.heap.size) := fun W hW => (hT W hW).2.2
  have HNU := hid (fun (v : Int) (W : World) => lnum_any v W)
  have HPO : Hid (∀ W, Below w.heap.size w W → StepPost w0 p pd pr M W) := fun W hW => StepPost.same (h.below hW) hd hx
  obtain ⟨q0, q1, q2, q3, q4, q5⟩ := blk6 b0
  have HB0 := hid b0
  have HK0 := hid k0
  have hqz := lt_of_blk' b0
  have hS0 : (w.alloc (opBlk 13 a b c s vl)).drew.cell? ⟨p, 0, none⟩ = some (.pointer (some ⟨pd, 0, none⟩)) ∧ (w.alloc (opBlk 13 a b c s vl)).drew.cell? ⟨w.heap.size, 1, none⟩ = some (.int .i64 a) := ⟨c0, q1⟩
  have c0' : (w.alloc (opBlk 13 a b c s vl)).cell? ⟨p, 0, none⟩ = some (.pointer (some ⟨pd, 0, none⟩)) := c0
  have hpz' : p < (w.alloc (opBlk 13 a b c s vl)).heap.size := hpz
  have HDET : Hid (∀ (x : ByteArray) (c : Int) (x' : ByteArray) (c' : Int), ETold D a x c → ETold D a x' c' → x = x' ∧ c = c') := fun _ _ _ _ h k => h.det k
  generalize ETold D a = QT at *
  clear h hT hdk hd hx b0 k0 c0 hpz q1 q2 q3 q4 q5
  go_enter Tryz.func21, Tryz.ntmps21
  go_wp2_with fail
  go_region_held3 (fun w' => w'.cell? ⟨p, 0, none⟩ = some (.pointer (some ⟨pd, 0, none⟩)) ∧ w'.cell? ⟨w.heap.size, 1, none⟩ = some (.int .i64 a)) (first | with_reducible exact hS0 | with_reducible exact hS3 | go_keep) (first | (go_at_call 53; refine HF.out.mono ?_; rintro e w1 ⟨⟨x1, c1, rfl, hq1⟩, hbb1⟩; have k1 := HK0.out.trans (hbb1.mono HK0.out.size); have b1 := (hbb1.block _ hqz).trans HB0.out; have hS3 : w1.cell? ⟨p, 0, none⟩ = some (.pointer (some ⟨pd, 0, none⟩)) ∧ w1.cell? ⟨w.heap.size, 1, none⟩ = some (.int .i64 a) := ⟨(HT1.out w1 k1).1, (blk6 b1).2.1⟩))
  have HK1 := hid (below_drewn k1)
  have HB1 : Hid (w1.drew.heap[w.heap.size]? = some (opBlk 13 a b c s vl)) := b1
  obtain ⟨d0, d1, hpz1⟩ := HT1.out w1 k1
  obtain ⟨y0, y1, y2, y3, y4, y5⟩ := blk6 b1
  have hqz1 := lt_of_blk' b1
  have hS0' : w1.drew.cell? ⟨p, 1, none⟩ = some (.pointer (some ⟨pr, 0, none⟩)) ∧ w1.drew.cell? ⟨w.heap.size, 1, none⟩ = some (.int .i64 a) := ⟨d1, y1⟩
  have HF2 := hid (HR2.out _ HK1.out)
  clear hS0 hS3 k1 b1 hbb1 HF HB0 y1 y2 y3 y4 y5 d0 q0 c0' hpz' HR2 HK0 hqz
  go_wp2_with fail
  go_region_held3 (fun w' => w'.cell? ⟨p, 1, none⟩ = some (.pointer (some ⟨pr, 0, none⟩)) ∧ w'.cell? ⟨w.heap.size, 1, none⟩ = some (.int .i64 a)) (first | with_reducible exact hS0' | with_reducible exact hS4 | go_keep) (first | (go_at_call 54; refine HF2.out.mono ?_; rintro e w2 ⟨⟨x2, c2, rfl, hq2⟩, hbb2⟩; have k2 := HK1.out.trans (hbb2.mono HK1.out.size); have b2 := (hbb2.block _ hqz1).trans HB1.out; have hS4 : w2.cell? ⟨p, 1, none⟩ = some (.pointer (some ⟨pr, 0, none⟩)) ∧ w2.cell? ⟨w.heap.size, 1, none⟩ = some (.int .i64 a) := ⟨(HT1.out w2 k2).2.1, (blk6 b2).2.1⟩))
  have HFIN := hid (HPO.out w2 k2)
  clear k2 b2 hbb2 hS4 hS0' HF2 HK1 HB1
  obtain ⟨ex, ec⟩ := HDET.out _ _ _ _ hq1 hq2
  subst ex
  subst ec
  have hb1 : (x1.toList == x1.toList) = true := bl_yes rfl
  have hb2 : (c1 == c1) = true := by simp
  clear hq1 hq2 HDET
  go_wp2_with (go_at_call 13; refine (HNU.out _ _).mono ?_; rintro e w' ⟨rfl, hw⟩; obtain rfl := hw.symm)
  go_ret
  exact ⟨rfl, HFIN.out⟩

set_option maxHeartbeats 2000000 in
set_option maxRecDepth 100000 in
theorem ldecode_any (p pd pr : Nat) (a b c : Int) (s : ByteArray) (vl : Value) (D : Dk) (M : List Le) (w0 w : World) (h : LwSt w0 w p pd pr D D M) (hd : LInv D) (hx : ∀ i, i < M.length → (M.getD i Le.none).xs.length ≤ 1099511627776) (hs : s.size ≤ 140737488355328) :
    Calls Tryz.prog 21 #[.pointer (some ⟨p, 0, none⟩), opVal 14 a b c s vl] w fun e w' => e = .returned (.bool true) ∧ StepPost w0 p pd pr M w' := by
  have k0 := (h.box (opBlk 14 a b c s vl)).drew
  have b0 : (w.alloc (opBlk 14 a b c s vl)).drew.heap[w.heap.size]? = some (opBlk 14 a b c s vl) := heap_alloc_new w _
  obtain ⟨F, hdk, hstep⟩ := k0.prog
  have HF := hid (decodeT pd s D _ hdk hd.inv hs)
  have HST := hid hstep
  obtain ⟨c0, c1, hpz, hqz⟩ := k0.cells
  obtain ⟨q0, q1, q2, q3, q4, q5⟩ := blk6 b0
  have HB0 := hid b0
  have HR2 := hid (fun (G : Nat → Prop) (W : World) (hr : RAt G W pr D) => rdecodeT pr s D W hr hd hs)
  have HNU := hid (fun (v : Int) (W : World) => lnum_any v W)
  have HLI := hid hd
  have HX := hid hx
  have hS0 : (w.alloc (opBlk 14 a b c s vl)).drew.cell? ⟨p, 0, none⟩ = some (.pointer (some ⟨pd, 0, none⟩)) ∧ (w.alloc (opBlk 14 a b c s vl)).drew.cell? ⟨w.heap.size, 4, none⟩ = some (.string s) := ⟨c0, q4⟩
  have c0' : (w.alloc (opBlk 14 a b c s vl)).cell? ⟨p, 0, none⟩ = some (.pointer (some ⟨pd, 0, none⟩)) := c0
  have hpz' : p < (w.alloc (opBlk 14 a b c s vl)).heap.size := hpz
  clear h k0 hdk hstep hd hx b0 c0 c1 hpz q1 q2 q3 q5
  go_enter Tryz.func21, Tryz.ntmps21
  go_wp2_with fail
  go_region_held3 (fun w' => w'.cell? ⟨p, 0, none⟩ = some (.pointer (some ⟨pd, 0, none⟩)) ∧ w'.cell? ⟨w.heap.size, 4, none⟩ = some (.string s)) (first | with_reducible exact hS0 | with_reducible exact hS3 | go_keep) (first | (go_at_call 55; refine HF.out.mono ?_; rintro e w1 ⟨v1, c1, D1, rfl, hst1, hr1⟩; obtain ⟨k1, e1⟩ := HST.out w1 D1 hst1; have b1 := e1.trans HB0.out; have hS3 : w1.cell? ⟨p, 0, none⟩ = some (.pointer (some ⟨pd, 0, none⟩)) ∧ w1.cell? ⟨w.heap.size, 4, none⟩ = some (.string s) := ⟨k1.cells.1, (blk6 b1).2.2.2.2.1⟩))
  have HK1 := hid k1.drew
  have HB1 : Hid (w1.drew.heap[w.heap.size]? = some (opBlk 14 a b c s vl)) := b1
  have HRL1 := hid hr1
  obtain ⟨d0, d1, hpz1, hqz1⟩ := k1.cells
  obtain ⟨y0, y1, y2, y3, y4, y5⟩ := blk6 b1
  have hS0' : w1.drew.cell? ⟨p, 1, none⟩ = some (.pointer (some ⟨pr, 0, none⟩)) ∧ w1.drew.cell? ⟨w.heap.size, 4, none⟩ = some (.string s) := ⟨d1, y4⟩
  clear hS0 hS3 k1 e1 b1 hr1 hst1 HF HST HB0 y1 y2 y3 y5 d0 q0 q4 c0' hpz'
  obtain ⟨G, hra, hstep2⟩ := HK1.out.doc
  have HF2 := hid (HR2.out G _ hra)
  have HST2 := hid hstep2
  clear hra hstep2 HR2
  go_wp2_with fail
  go_region_held3 (fun w' => w'.cell? ⟨p, 1, none⟩ = some (.pointer (some ⟨pr, 0, none⟩)) ∧ w'.cell? ⟨w.heap.size, 4, none⟩ = some (.string s)) (first | with_reducible exact hS0' | with_reducible exact hS4 | go_keep) (first | (go_at_call 56; refine HF2.out.mono ?_; rintro e w2 ⟨v2, c2, D2, rfl, hst2, hr2⟩; obtain ⟨k2, e2⟩ := HST2.out w2 D2 hst2; have b2 := e2.trans HB1.out; have hS4 : w2.cell? ⟨p, 1, none⟩ = some (.pointer (some ⟨pr, 0, none⟩)) ∧ w2.cell? ⟨w.heap.size, 4, none⟩ = some (.string s) := ⟨k2.cells.2.1, (blk6 b2).2.2.2.2.1⟩))
  obtain ⟨hvv, hcc, hDD⟩ := HRL1.out.det hr2
  subst hvv
  subst hcc
  subst hDD
  have HFIN : Hid (StepPost w0 p pd pr M w2) := StepPost.same k2.st (hr2.linv HLI.out) HX.out
  clear k2 e2 b2 hr2 hst2 hS4 hS0' HST2 HF2 HK1 HB1 HRL1
  have hcb : (c1 == c1) = true := by simp
  have hvb : (v1 == v1) = true := by simp
  go_wp2_with (go_at_call 13; refine (HNU.out _ _).mono ?_; rintro e w' ⟨rfl, hw⟩; obtain rfl := hw.symm)
  go_ret
  exact ⟨rfl, HFIN.out⟩

end Go.Proofs.YtklicjbpjigfdaaGreat

/- DERIVED. One step on both desks: kinds up to 14, and what the caller writes. -/
namespace Go.Proofs.YtklicjbpjigfdaaGreat
open Go.RowKit
attribute [local go_sem ↓] Go.wp_at_zero Go.wp_at_succ
set_option linter.unusedVariables false

set_option maxHeartbeats 1000000 in
theorem step13_any (p pd pr : Nat) (a b c : Int) (s : ByteArray) (lo : Option Addr) (ln lc : Nat) (C : List Int) (D : Dk) (M : List Le) (w0 w : World) (hC : IntsG w lo ln C) (hl : ln ≤ 17592186044416) (h : LwSt w0 w p pd pr D D M) (hd : LInv D) (hx : ∀ i, i < M.length → (M.getD i Le.none).xs.length ≤ 1099511627776) (hm : M.length ≤ 4398046511104) (hs : s.size ≤ 140737488355328) (ha : -9223372036854775808 ≤ a ∧ a ≤ 9223372036854775807) (hb : -9223372036854775808 ≤ b ∧ b ≤ 9223372036854775807) :
    Calls Tryz.prog 9 #[.pointer (some ⟨p, 0, none⟩), opVal 13 a b c s (.slice lo ln lc)] w fun e w' => e = .returned (.bool true) ∧ StepPost w0 p pd pr M w' := by
  have hA := h.below (below_new_al (opBlk 13 a b c s (.slice lo ln lc)))
  have hCA := hC.below (below_new_al (opBlk 13 a b c s (.slice lo ln lc)))
  have HC := hid (lencode_any p pd pr a b c s (.slice lo ln lc) D M w0 _ hA hd hx)
  clear h hd hx hm hs ha hb hA hC hCA hl
  go_enter Tryz.func9, Tryz.ntmps9
  go_wp2_with fail
  refine HC.out.mono ?_
  rintro e w1 ⟨rfl, hsp⟩
  have HSP := hid hsp
  clear hsp HC
  go_wp2_with fail
  go_ret
  exact ⟨rfl, HSP.out⟩

set_option maxHeartbeats 1000000 in
theorem step14_any (p pd pr : Nat) (a b c : Int) (s : ByteArray) (lo : Option Addr) (ln lc : Nat) (C : List Int) (D : Dk) (M : List Le) (w0 w : World) (hC : IntsG w lo ln C) (hl : ln ≤ 17592186044416) (h : LwSt w0 w p pd pr D D M) (hd : LInv D) (hx : ∀ i, i < M.length → (M.getD i Le.none).xs.length ≤ 1099511627776) (hm : M.length ≤ 4398046511104) (hs : s.size ≤ 140737488355328) (ha : -9223372036854775808 ≤ a ∧ a ≤ 9223372036854775807) (hb : -9223372036854775808 ≤ b ∧ b ≤ 9223372036854775807) :
    Calls Tryz.prog 9 #[.pointer (some ⟨p, 0, none⟩), opVal 14 a b c s (.slice lo ln lc)] w fun e w' => e = .returned (.bool true) ∧ StepPost w0 p pd pr M w' := by
  have hA := h.below (below_new_al (opBlk 14 a b c s (.slice lo ln lc)))
  have hCA := hC.below (below_new_al (opBlk 14 a b c s (.slice lo ln lc)))
  have HC := hid (ldecode_any p pd pr a b c s (.slice lo ln lc) D M w0 _ hA hd hx hs)
  clear h hd hx hm hs ha hb hA hC hCA hl
  go_enter Tryz.func9, Tryz.ntmps9
  go_wp2_with fail
  refine HC.out.mono ?_
  rintro e w1 ⟨rfl, hsp⟩
  have HSP := hid hsp
  clear hsp HC
  go_wp2_with fail
  go_ret
  exact ⟨rfl, HSP.out⟩

theorem stepC_any (p pd pr : Nat) (kd : Int) (a b c : Int) (s : ByteArray) (lo : Option Addr) (ln lc : Nat) (C : List Int) (D : Dk) (M : List Le) (w0 w : World) (hC : IntsG w lo ln C) (hl : ln ≤ 17592186044416) (h : LwSt w0 w p pd pr D D M) (hd : LInv D) (hx : ∀ i, i < M.length → (M.getD i Le.none).xs.length ≤ 1099511627776) (hm : M.length ≤ 4398046511104) (hs : s.size ≤ 140737488355328) (ha : -9223372036854775808 ≤ a ∧ a ≤ 9223372036854775807) (hb : -9223372036854775808 ≤ b ∧ b ≤ 9223372036854775807) (hk : kd ≤ 14 ∨ kd = 17) :
    Calls Tryz.prog 9 #[.pointer (some ⟨p, 0, none⟩), opVal kd a b c s (.slice lo ln lc)] w fun e w' => e = .returned (.bool true) ∧ StepPost w0 p pd pr M w' := by
  by_cases h1 : kd ≤ 12 ∨ kd = 17
  · exact stepB_any p pd pr kd a b c s lo ln lc C D M w0 w hC hl h hd hx hm hs ha hb h1
  · have h2 : kd = 13 ∨ kd = 14 := by omega
    rcases h2 with rfl | rfl
    · exact step13_any p pd pr a b c s lo ln lc C D M w0 w hC hl h hd hx hm hs ha hb
    · exact step14_any p pd pr a b c s lo ln lc C D M w0 w hC hl h hd hx hm hs ha hb

end Go.Proofs.YtklicjbpjigfdaaGreat

/- DERIVED. A script is played on both desks: up to Decode. -/
namespace Go.Proofs.YtklicjbpjigfdaaGreat
open Go.RowKit
attribute [local go_sem ↓] Go.wp_at_zero Go.wp_at_succ

set_option maxHeartbeats 12000000 in
set_option maxRecDepth 100000 in
theorem playsC_any (room : Int) (ao : Option Addr) (n cap : Nat) (os : List Opr) (up lo hi : Int) (w : World) (hu : up ≤ 14) (hn : n ≤ 4398046511104) (ho : OpsAt w ao n os) (hok : ∀ i, i < n → (os.getD i Opr.zero).Ok) (hls : ∀ i, i < n → ∃ l1 l2 l3 C, (os.getD i Opr.zero).vl = .slice l1 l2 l3 ∧ IntsG w l1 l2 C ∧ l2 ≤ 17592186044416) :
    Calls Tryz.prog 7 #[.int .i64 room, .slice ao n cap, .int .i64 up, .int .i64 lo, .int .i64 hi] w fun e w' => e = .returned (.bool true) ∧ Below w.heap.size w w' := by
  by_cases hr : room < 1 ∨ 8 < room
  · have HB := hid (begun_no room w hr)
    clear hr ho hok hls
    go_enter Tryz.func7, Tryz.ntmps7
    go_wp2_with (go_at_call 8; refine HB.out.mono ?_; rintro e w' ⟨rfl, hw⟩; obtain rfl := hw.symm)
    go_ret
    exact ⟨rfl, Below.refl _ _⟩
  · obtain ⟨rm, rfl⟩ : ∃ rm : Nat, room = (rm : Int) := ⟨room.toNat, by omega⟩
    have HB := hid (begun_ok rm w (by omega) (by omega))
    have HLI := hid (linv_first rm (by omega) (by omega))
    have HO := hid ho
    have HOK := hid hok
    have HLS := hid hls
    clear hr ho hok hls
    go_enter Tryz.func7, Tryz.ntmps7
    go_wp2_with fail
    refine HB.out.mono ?_
    rintro e w1 ⟨p, pd, pr, rfl, hst⟩
    have HS0 := hid hst
    clear hst HB
    go_wp2_with fail
    go_loopw [13] (fun si wr => ∃ (j : Nat) (D : Dk) (M : List Le), j ≤ n ∧ si = .int .i64 (j : Int) ∧ Hid (LwSt w wr p pd pr D D M ∧ LInv D ∧ M.length ≤ j ∧ ∀ i, i < M.length → (M.getD i Le.none).xs.length ≤ 1099511627776)) (fun si _ => n - (intOf si).toNat)
    case atStart => exact ⟨0, _, [], Nat.zero_le _, rfl, HS0.out, HLI.out, Nat.zero_le _, fun i hi => by simp at hi⟩
    case round =>
      obtain ⟨j, D, M, hj, rfl, Hs⟩ := hrel
      clear HS0 HLI
      by_cases hlt : j < n
      · obtain ⟨b, off, rfl, hbz, r0, r1, r2, r3, r4, r5⟩ := HO.out j hlt
        have hbel : Below w.heap.size w wr := by
          obtain ⟨_, _, _, _, _, h3⟩ := Hs.out.1
          exact h3
        have hok := HOK.out j hlt
        obtain ⟨l1, l2, l3, C, el, hC, hl2⟩ := HLS.out j hlt
        rw [el] at r5
        have r0' := (hbel.cell (p := ⟨b, off + j * 6, none⟩) hbz).trans r0
        have r1' := (hbel.cell (p := ⟨b, off + j * 6 + 1, none⟩) hbz).trans r1
        have r2' := (hbel.cell (p := ⟨b, off + j * 6 + 2, none⟩) hbz).trans r2
        have r3' := (hbel.cell (p := ⟨b, off + j * 6 + 3, none⟩) hbz).trans r3
        have r4' := (hbel.cell (p := ⟨b, off + j * 6 + 4, none⟩) hbz).trans r4
        have r5' := (hbel.cell (p := ⟨b, off + j * 6 + 5, none⟩) hbz).trans r5
        have hbz' := Nat.lt_of_lt_of_le hbz hbel.size
        have hs1 : (0 : Int) ≤ (j : Int) := by omega
        have hs2 : (j : Int) < (n : Int) := by omega
        have oa := hok.a1
        have ob := hok.b1
        have osz := hok.s1
        generalize (os.getD j Opr.zero).kd = kd at *
        generalize (os.getD j Opr.zero).a = a at *
        generalize (os.getD j Opr.zero).b = bb at *
        generalize (os.getD j Opr.zero).c = cc at *
        generalize (os.getD j Opr.zero).s = s at *
        have hA := Hs.out.1.below (below_new_al (opBlk kd a bb cc s (.slice l1 l2 l3)))
        have HSA := hid hA
        have hCA := (hC.below hbel).below (below_new_al (opBlk kd a bb cc s (.slice l1 l2 l3)))
        clear r0 r1 r2 r3 r4 r5 hok el
        have HC := hid (fun (hkk : kd ≤ 14 ∨ kd = 17) => stepC_any p pd pr kd a bb cc s l1 l2 l3 C D M w _ hCA hl2 hA Hs.out.2.1 Hs.out.2.2.2 (by have := Hs.out.2.2.1; omega) osz oa ob hkk)
        have HMJ := hid Hs.out.2.2.1
        have HTL := hid Hs.out.2
        have HBX := hid (heap_alloc_new wr (opBlk kd a bb cc s (.slice l1 l2 l3)))
        clear hA Hs oa ob osz hC hCA hl2
        go_upto_region 8 with fail
        clear r0' r1' r2' r3' r4' r5' hbz' hs1 hs2 hbel hbz
        generalize wr.alloc (opBlk kd a bb cc s (.slice l1 l2 l3)) = wA at *
        generalize wr.heap.size = q at *
        obtain ⟨x0, x1, x2, x3, x4, x5⟩ := blk6 HBX.out
        have hqz := lt_of_blk' HBX.out
        go_cut [45] from 27 to 66 (fun s45 wd => s45 = .bool (decide (up < kd ∧ kd ≠ 17)) ∧ wd = wA)
        case first =>
          by_cases g : up < kd
          · have g1 : decide (up < kd) = true := decide_eq_true g
            by_cases e17 : kd = 17
            · have g2 : (kd != 17) = false := by simp [e17]
              have HU : Hid (decide (up < kd ∧ kd ≠ 17) = false) := decide_eq_false (fun h => h.2 e17)
              go_wp2_with fail
              go_meet
              exact ⟨by rw [HU.out], rfl⟩
            · have g2 : (kd != 17) = true := by simpa using e17
              have HU : Hid (decide (up < kd ∧ kd ≠ 17) = true) := decide_eq_true ⟨g, e17⟩
              go_wp2_with fail
              go_meet
              exact ⟨by rw [HU.out], rfl⟩
          · have g1 : decide (up < kd) = false := decide_eq_false g
            have HU : Hid (decide (up < kd ∧ kd ≠ 17) = false) := decide_eq_false (fun h => g h.1)
            go_wp2_with fail
            go_meet
            exact ⟨by rw [HU.out], rfl⟩
        case rest =>
        obtain ⟨rfl, hwc⟩ := hcut
        obtain rfl := hwc.symm
        clear hwc
        by_cases hskip : up < kd ∧ kd ≠ 17
        · have hsk : decide (up < kd ∧ kd ≠ 17) = true := decide_eq_true hskip
          simp only [hsk]
          clear HC x0 x1 x2 x3 x4 x5 hskip hsk
          go_wp2_with fail
          go_roundw
          case rel => exact ⟨j + 1, D, M, by omega, by go_num, HSA.out, HTL.out.1, by have := HMJ.out; omega, HTL.out.2.2⟩
          case measure => simp [intOf]; omega
        · have hsk : decide (up < kd ∧ kd ≠ 17) = false := decide_eq_false hskip
          simp only [hsk]
          have HC2 := hid (HC.out (by
            by_cases e : kd = 17
            · exact .inr e
            · exact .inl (by
                have : ¬ up < kd := fun h => hskip ⟨h, e⟩
                omega)))
          clear HC hskip hsk
          go_wp2_with fail
          refine HC2.out.mono ?_
          rintro e w2 ⟨rfl, hsp⟩
          obtain ⟨D2, M2, h1, h2, h3, h4⟩ := hsp
          have HLK := hid (looks_any p pd pr D2 D2 M2 w w2 h1 (by have := HMJ.out; omega) h4)
          have HN2 : Hid (LwSt w w2 p pd pr D2 D2 M2 ∧ LInv D2 ∧ M2.length ≤ j + 1 ∧ ∀ i, i < M2.length → (M2.getD i Le.none).xs.length ≤ 1099511627776) := ⟨h1, h2, by have := HMJ.out; omega, h4⟩
          clear h1 h2 h3 h4 HC2 HMJ HTL HSA HBX x0 x1 x2 x3 x4 x5
          go_wp2_with fail
          refine HLK.out.mono ?_
          rintro e w3 ⟨rfl, hb3⟩
          have HN3 : Hid (LwSt w w3 p pd pr D2 D2 M2 ∧ LInv D2 ∧ M2.length ≤ j + 1 ∧ ∀ i, i < M2.length → (M2.getD i Le.none).xs.length ≤ 1099511627776) := ⟨HN2.out.1.below hb3, HN2.out.2⟩
          clear hb3 HLK HN2
          go_wp2_with fail
          go_roundw
          case rel => exact ⟨j + 1, D2, M2, by omega, by go_num, HN3⟩
          case measure => simp [intOf]; omega
      · have hbel : Below w.heap.size w wr := by
          obtain ⟨_, _, _, _, _, h3⟩ := Hs.out.1
          exact h3
        go_wp2_with fail
        go_ret
        exact ⟨rfl, hbel⟩

end Go.Proofs.YtklicjbpjigfdaaGreat
