/- DERIVED. The walk of the document's own Take, where the call is let in as far as the reports. -/
import Derived.Test.YtklicjbpjigfdabGreatQ29
import Derived.Test.YtklicjbpjigfdabGreatLawS
import Derived.Test.YtklicjbpjigfdabGreatQ19
import Derived.Test.YtklicjbpjigfdabGreatQ23
import Derived.Deep.Cut
import Derived.Deep.CutRange
namespace Go.Proofs.YtklicjbpjigfdabGreat
open Go.RowKit
attribute [local go_sem ↓] Go.wp_at_zero Go.wp_at_succ
variable {G : Nat → Prop}

/-- What Take says, once the sketch, the seal and the numbers are in order. -/
theorem TakeRel.rest {i : Nat} {B C c : Int} {t : ByteArray} {D D' : Dk} (hi : i < D.sks.length) (hse : (D.sks.getD i Hd.none).sealed = false) (hr : 0 ≤ B ∧ B ≤ 255 ∧ 0 ≤ C)
    (h : (c = 10 ∧ tookB (D.sks.getD i Hd.none).taken B C = true ∧ D' = D) ∨ (tookB (D.sks.getD i Hd.none).taken B C = false ∧
          ((c = 9 ∧ isText (bytesOf t) = false ∧ D' = D) ∨ (isText (bytesOf t) = true ∧
            ((c = 3 ∧ 64 ≤ (D.sks.getD i Hd.none).taken.length ∧ D' = D) ∨ ((D.sks.getD i Hd.none).taken.length < 64 ∧
              ((c = 6 ∧ 268435456 < wsum (D.sks.getD i Hd.none).sk.lv + wsum (toldS (bytesOf t)).lv ∧ D' = D) ∨ (wsum (D.sks.getD i Hd.none).sk.lv + wsum (toldS (bytesOf t)).lv ≤ 268435456 ∧
                ((c = 7 ∧ settle (mgK (D.sks.getD i Hd.none) ⟨toldS (bytesOf t), false, []⟩) D.tape 0 (mgL (D.sks.getD i Hd.none) ⟨toldS (bytesOf t), false, []⟩) = Option.none ∧ D' = D) ∨
                  (c = 0 ∧ ∃ L u, settle (mgK (D.sks.getD i Hd.none) ⟨toldS (bytesOf t), false, []⟩) D.tape 0 (mgL (D.sks.getD i Hd.none) ⟨toldS (bytesOf t), false, []⟩) = some (L, u) ∧ D' = { D with tape := D.tape.drop u, sks := D.sks.set i ((D.sks.getD i Hd.none).reported ⟨toldS (bytesOf t), false, []⟩ L B C) })))))))))) :
    TakeRel (i : Int) B C t D c D' := .inr ⟨i, rfl, hi, .inr ⟨hse, .inr ⟨hr, h⟩⟩⟩

/-- Enter, of what was read. -/
theorem renter_told (d i : Nat) (t : ByteArray) (D : Dk) (s : ByteArray) (va : Value) (rs : List RRef) (w0 w : World) (bo tO : Option Addr) (bl bc tl tc : Nat) (h : RIn G w0 d D s va rs) (hbw : Below w0.heap.size w0 w) (hi : i < D.sks.length) (hd : LInv D) (hit : isText (bytesOf t) = true) (hB : BagAt w (.slice bo bl bc) (bagL 0 (toldS (bytesOf t)).lv)) (hT : Ints w (.slice tO tl tc) (nats (timesN (toldS (bytesOf t)).lv))) :
    Calls Tryz.prog 64 #[.pointer (some ⟨d, 0, none⟩), .int .i64 (i : Int), rsVal (toldS (bytesOf t)).k (.slice bo bl bc) (.slice tO tl tc) (toldS (bytesOf t)).lo (toldS (bytesOf t)).hi false (.slice none 0 0)] w fun e w' => KeepR w0 w' ∧ EnPost G d i (toldS (bytesOf t)).k (mgLo (D.sks.getD i Hd.none) ⟨toldS (bytesOf t), false, []⟩) (mgHi (D.sks.getD i Hd.none) ⟨toldS (bytesOf t), false, []⟩) (wsum (toldS (bytesOf t)).lv) (mgL (D.sks.getD i Hd.none) ⟨toldS (bytesOf t), false, []⟩) D w0 e w' := by
  have hki := h.sk i hi
  have ri := hd.inv.sk i hi
  have rj := rinv_told (b := false) (l := []) hit
  have sj := sok_told (b := false) (l := []) hit
  have hTS := ri.ts rj
  have hbof := bagL_of (toldS (bytesOf t)).lv
  have hlow : Low (bagL 0 (toldS (bytesOf t)).lv) := bagL_low (by have := rj.ok.len; simp only at this; omega)
  have hnb : (bagL 0 (toldS (bytesOf t)).lv).length ≤ 50000 := by
    have := rj.set
    have h2 := capSum_monoK rj.ok.k2 (toldS (bytesOf t)).lv.length
    have h3 := capSum_mono (k := 64) rj.ok.len
    rw [capSum_230] at h3
    rw [bagL_length]
    simp only at *
    omega
  have := renter_any (itemsAll (D.sks.getD i Hd.none).sk.lv ++ itemsAll (toldS (bytesOf t)).lv) d i (toldS (bytesOf t)).k (.slice bo bl bc) (.slice tO tl tc) (.slice none 0 0) (toldS (bytesOf t)).lo (toldS (bytesOf t)).hi (mgLo (D.sks.getD i Hd.none) ⟨toldS (bytesOf t), false, []⟩) (mgHi (D.sks.getD i Hd.none) ⟨toldS (bytesOf t), false, []⟩) false (bagL 0 (toldS (bytesOf t)).lv) (timesN (toldS (bytesOf t)).lv) (mgL (D.sks.getD i Hd.none) ⟨toldS (bytesOf t), false, []⟩) D s va rs w0 w h hbw hi hd hB hT (hki.bof.merge hbof) (mergeL_timesN _ _)
    (LvOk.merge ((hd.ok i hi).srt.mono fun y hy => List.mem_append_left _ hy) (sj.srt.mono fun y hy => List.mem_append_right _ hy)) (by unfold mgL; rw [mergeL_length]; have := ri.ok.len; have := rj.ok.len; omega)
    (fun j => by have := tsum_at (mgL (D.sks.getD i Hd.none) ⟨toldS (bytesOf t), false, []⟩) j; have e9 : tsum (mgL (D.sks.getD i Hd.none) ⟨toldS (bytesOf t), false, []⟩) = tsum (D.sks.getD i Hd.none).sk.lv + tsum (toldS (bytesOf t)).lv := mergeL_tsum _ _; simp only at hTS; omega) hnb hlow (by have := rj.ok.k2; simp only at this; omega) (by rw [timesN_length]; have := rj.ok.len; simp only at this; omega) (fun j => by rw [timesN_getD]; have := rj.ok.tms j; simp only at this; omega) ⟨_, _, _, rfl⟩
    (fun hne => boLo_mg (y := ⟨toldS (bytesOf t), false, []⟩) hki.bof hbof (fun h' => (hki.ends h').1) (fun _ => rfl) hne) (fun hne => boHi_mg (y := ⟨toldS (bytesOf t), false, []⟩) hki.bof hbof (fun h' => (hki.ends h').2) (fun _ => rfl) hne)
  rw [bagW_of hbof] at this
  exact this

/-- What Take leaves. -/
def TkPost (G : Nat → Prop) (d : Nat) (A B C : Int) (t : ByteArray) (D : Dk) (w : World) (e : Ending) (w' : World) : Prop := ∃ v D', e = .returned (.int .i64 v) ∧ RStep G w w' d D' ∧ TakeRel A B C t D v D'
/-- What enter leaves of it. -/
def TkIn (G : Nat → Prop) (d i b c : Nat) (t : ByteArray) (D : Dk) (w : World) (e : Ending) (w' : World) : Prop :=
  (∃ v, v ≠ 0 ∧ e = .returned (.int .i64 v) ∧ RStep G w w' d D ∧ TakeRel (i : Int) (b : Int) (c : Int) t D v D) ∨
  (e = .returned (.int .i64 0) ∧ ∃ D1, RStep G w w' d D1 ∧ D1.sks.length = D.sks.length ∧ TakeRel (i : Int) (b : Int) (c : Int) t D 0 { D1 with sks := D1.sks.set i { D1.sks.getD i Hd.none with taken := (D.sks.getD i Hd.none).taken ++ [(b, c)] } })
theorem EnPost.tk {d i b c : Nat} {t : ByteArray} {D : Dk} {w w' : World} {e : Ending} (hi : i < D.sks.length) (hse : (D.sks.getD i Hd.none).sealed = false) (hb : b ≤ 255) (hnt : tookB (D.sks.getD i Hd.none).taken (b : Int) (c : Int) = false) (hit : isText (bytesOf t) = true) (hm : (D.sks.getD i Hd.none).taken.length < 64)
    (h : EnPost G d i (toldS (bytesOf t)).k (mgLo (D.sks.getD i Hd.none) ⟨toldS (bytesOf t), false, []⟩) (mgHi (D.sks.getD i Hd.none) ⟨toldS (bytesOf t), false, []⟩) (wsum (toldS (bytesOf t)).lv) (mgL (D.sks.getD i Hd.none) ⟨toldS (bytesOf t), false, []⟩) D w e w') : TkIn G d i b c t D w e w' := by
  have hr : (0 : Int) ≤ (b : Int) ∧ (b : Int) ≤ 255 ∧ (0 : Int) ≤ (c : Int) := by omega
  obtain ⟨v, D', he, hs, hx⟩ := h
  rcases hx with ⟨rfl, h1, rfl⟩ | ⟨h1, ⟨rfl, h2, rfl⟩ | ⟨rfl, L, u, h2, rfl⟩⟩
  · exact .inl ⟨6, by decide, he, hs, TakeRel.rest hi hse hr (.inr ⟨hnt, .inr ⟨hit, .inr ⟨hm, .inl ⟨rfl, h1, rfl⟩⟩⟩⟩)⟩
  · exact .inl ⟨7, by decide, he, hs, TakeRel.rest hi hse hr (.inr ⟨hnt, .inr ⟨hit, .inr ⟨hm, .inr ⟨h1, .inl ⟨rfl, h2, rfl⟩⟩⟩⟩⟩)⟩
  · refine .inr ⟨he, _, hs, by simp, TakeRel.rest hi hse hr (.inr ⟨hnt, .inr ⟨hit, .inr ⟨hm, .inr ⟨h1, .inr ⟨rfl, L, u, h2, ?_⟩⟩⟩⟩⟩)⟩
    have e1 : ∀ X : Hd, (D.sks.set i X).getD i Hd.none = X := fun X => by rw [getD_set_hd hi, if_pos rfl]
    simp only [e1, List.set_set]
    rfl

set_option maxHeartbeats 4000000 in
set_option maxRecDepth 100000 in
theorem rtake_in (d i : Nat) (b c : Nat) (t : ByteArray) (D : Dk) (w : World) (h : RAt G w d D) (hd : LInv D) (hi : i < D.sks.length) (hse : (D.sks.getD i Hd.none).sealed = false) (hb : b ≤ 255) (ht : t.size ≤ 140737488355328) :
    Calls Tryz.prog 36 #[.pointer (some ⟨d, 0, none⟩), .int .i64 (i : Int), .int .i64 (b : Int), .int .i64 (c : Int), .string t] w fun e w' => w.heap.size ≤ w'.heap.size ∧ TkPost G d (i : Int) (b : Int) (c : Int) t D w e w' := by
  have HRA := hid h
  obtain ⟨s, va, rs, h⟩ := h
  have HH := hid (rhas d (i : Int) D s va rs _ h)
  rw [hasB_nat hi] at HH
  have htk := hd.inv.tk i hi
  have hk := h.sk i hi
  obtain ⟨lo9, lc9, hv9, hcl⟩ := tk_form hk.tk
  have HCL := hid hcl
  have HREL := hid (fun (v : Int) (D' : Dk) hx => TakeRel.rest (t := t) (c := v) (D' := D') hi hse (show (0 : Int) ≤ (b : Int) ∧ (b : Int) ≤ 255 ∧ (0 : Int) ≤ (c : Int) by omega) hx)
  have HRD := hid (rread_any t w ht)
  have HEN := hid (fun (w' : World) (bo tO : Option Addr) (bl bc tl tc : Nat) (hbw : Below w.heap.size w w') (hit : isText (bytesOf t) = true) (hB : BagAt w' (.slice bo bl bc) (bagL 0 (toldS (bytesOf t)).lv)) (hT : Ints w' (.slice tO tl tc) (nats (timesN (toldS (bytesOf t)).lv))) (hnt : tookB (D.sks.getD i Hd.none).taken (b : Int) (c : Int) = false) (hm : (D.sks.getD i Hd.none).taken.length < 64) => (renter_told d i t D s va rs w w' bo tO bl bc tl tc h hbw hi hd hit hB hT).mono (fun e w2 ⟨h1, h2⟩ => (⟨h1, EnPost.tk hi hse hb hnt hit hm h2⟩ : KeepR w w2 ∧ TkIn G d i b c t D w e w2)))
  have HMK := hid (fun (v : Int) (D' : Dk) (e : Ending) (w' : World) (he : e = .returned (.int .i64 v)) (hs : RStep G w w' d D') (hr : TakeRel (i : Int) (b : Int) (c : Int) t D v D') => (⟨hs.size, v, D', he, hs, hr⟩ : w.heap.size ≤ w'.heap.size ∧ TkPost G d (i : Int) (b : Int) (c : Int) t D w e w'))
  generalize TkPost G d (i : Int) (b : Int) (c : Int) t D w = TP at *
  obtain ⟨g, gc, rfl, hg, q0, q1, q2, q3, q4, q5, q6, qz⟩ := h.cells7 hi
  obtain ⟨c0, c1, c2, cz⟩ := blk3 h.blk
  have hdz := lt_of_blk' h.blk
  rw [hse] at q5
  rw [hv9] at q6
  have hs2 : (i : Int) < (D.sks.length : Int) := by omega
  have HI := hid hi
  have HSE := hid hse
  have HLN : Hid (D.sks.length = D.sks.length) := rfl
  generalize hDs : D.sks.getD i Hd.none = H at *
  have HDS := hid hDs
  generalize hn : D.sks.length = n at *
  have HN := hid hn
  generalize hml : H.taken.length = m at *
  have HML := hid hml
  have hb1 : decide ((b : Int) < 0) = false := decide_eq_false (by omega)
  have hb2 : decide ((255 : Int) < (b : Int)) = false := decide_eq_false (by omega)
  have hb3 : decide ((c : Int) < 0) = false := decide_eq_false (by omega)
  clear h hk hcl q0 q1 q2 q3 q4 hDs hn hml hd hi hse hv9
  go_enter Tryz.func36, Tryz.ntmps36
  go_wp2_with (go_at_call 63; refine HH.out.mono ?_; rintro e w' ⟨rfl, hw⟩; obtain rfl := hw.symm)
  go_loop [13] (fun si => ∃ j : Nat, j ≤ m ∧ si = .int .i64 (j : Int) ∧ Hid (tookB (H.taken.take j) (b : Int) (c : Int) = false)) (fun si => m - (intOf si).toNat)
  case atStart => exact ⟨0, Nat.zero_le _, rfl, by simp [tookB, Hid]⟩
  case round =>
    obtain ⟨j, hj, rfl, Ht⟩ := hrel
    by_cases hlt : j < m
    · obtain ⟨gl, rfl, ⟨cc, hbl⟩, p0, p1⟩ := HCL.out j hlt
      have hgl := lt_of_blk' hbl
      have HF := hid (tookB_take (l := H.taken) (a := (b : Int)) (b := (c : Int)) (j := j) (by rw [HML.out]; exact hlt))
      have HO := hid (tookB_of (l := H.taken) (a := (b : Int)) (b := (c : Int)) (j := j) (by rw [HML.out]; exact hlt))
      generalize H.taken.getD j (0, 0) = p at *
      obtain ⟨x, y⟩ := p
      simp only at p0 p1 HF HO
      clear hbl
      by_cases e1 : (x : Int) = (b : Int)
      · have e1' : ((x : Int) == (b : Int)) = true := by simp [e1]
        by_cases e2 : (y : Int) = (c : Int)
        · have e2' : ((y : Int) == (c : Int)) = true := by simp [e2]
          have HY : Hid (TakeRel (i : Int) (b : Int) (c : Int) t D 10 D) := HREL.out 10 D (.inl ⟨rfl, HO.out (by rw [e1', e2']; rfl), rfl⟩)
          clear e1 e2
          go_wp2_with fail
          go_ret
          exact HMK.out 10 D _ _ rfl (RStep.of_below HRA.out (Below.refl _ _)) HY.out
        · have e2' : ((y : Int) == (c : Int)) = false := by simpa using e2
          have HT2 : Hid (tookB (H.taken.take (j + 1)) (b : Int) (c : Int) = false) := by rw [Hid, HF.out, Ht.out, e2']; simp
          clear e1 e2
          go_wp2_with fail
          go_round
          case rel => exact ⟨j + 1, by omega, by go_num, HT2⟩
          case measure => simp [intOf]; omega
      · have e1' : ((x : Int) == (b : Int)) = false := by simpa using e1
        have HT2 : Hid (tookB (H.taken.take (j + 1)) (b : Int) (c : Int) = false) := by rw [Hid, HF.out, Ht.out, e1']; simp
        clear e1
        go_wp2_with fail
        go_round
        case rel => exact ⟨j + 1, by omega, by go_num, HT2⟩
        case measure => simp [intOf]; omega
    · obtain rfl : m = j := by omega
      have HNT : Hid (tookB H.taken (b : Int) (c : Int) = false) := by have := Ht.out; rw [List.take_of_length_le (by rw [HML.out]; exact Nat.le_refl _)] at this; exact this
      clear hlt Ht
      go_wp2_with fail
      refine HRD.out.mono ?_
      rintro e w1 ⟨hans, hb1'⟩
      have HB1 := hid hb1'
      clear hb1' HRD
      rcases hans with ⟨hno, k, bo, bl, bc, tO, tl, tc, lo, hi, rfl⟩ | ⟨hyes, bo, bl, bc, tO, tl, tc, rfl, hB, hT, hf⟩
      · have HY : Hid (TakeRel (i : Int) (b : Int) (c : Int) t D 9 D) := HREL.out 9 D (.inr ⟨HNT.out, .inl ⟨rfl, hno, rfl⟩⟩)
        have HBA := hid (HB1.out.trans ((below_new_al (rsBlk k (.slice bo bl bc) (.slice tO tl tc) lo hi false (.slice none 0 0))).mono HB1.out.size))
        clear hno c0 c1 c2 cz hdz q5 q6 qz
        go_wp2_with fail
        go_ret
        exact HMK.out 9 D _ _ rfl (RStep.of_below HRA.out HBA.out) HY.out
      · have hal := below_new_al (w := w1) (rsBlk (toldS (bytesOf t)).k (.slice bo bl bc) (.slice tO tl tc) (toldS (bytesOf t)).lo (toldS (bytesOf t)).hi false (.slice none 0 0))
        have HBA := hid (HB1.out.trans (hal.mono HB1.out.size))
        have HBX := hid (heap_alloc_new w1 (rsBlk (toldS (bytesOf t)).k (.slice bo bl bc) (.slice tO tl tc) (toldS (bytesOf t)).lo (toldS (bytesOf t)).hi false (.slice none 0 0)))
        by_cases hm : m = 64
        · have hm' : ((m : Int) == 64) = true := by simp [hm]
          have HY : Hid (TakeRel (i : Int) (b : Int) (c : Int) t D 3 D) := HREL.out 3 D (.inr ⟨HNT.out, .inr ⟨hyes, .inl ⟨rfl, by omega, rfl⟩⟩⟩)
          clear hyes hB hT hf hal c0 c1 c2 cz hdz q5 q6 qz
          generalize (toldS (bytesOf t)).k = kS at *
          generalize (toldS (bytesOf t)).lo = loS at *
          generalize (toldS (bytesOf t)).hi = hiS at *
          clear hm
          go_wp2_with fail
          go_ret
          exact HMK.out 3 D _ _ rfl (RStep.of_below HRA.out HBA.out) HY.out
        · have hm' : ((m : Int) == 64) = false := by simp; omega
          have HENT := hid (HEN.out _ bo tO bl bc tl tc HBA.out hyes (hB.below hal) (hT.below hal) HNT.out (by omega))
          clear hyes hB hT hf hal hm c0 c1 c2 cz hdz q5 q6 qz HEN
          generalize (toldS (bytesOf t)).k = kS at *
          generalize (toldS (bytesOf t)).lo = loS at *
          generalize (toldS (bytesOf t)).hi = hiS at *
          go_upto_region 15 with fail
          obtain ⟨b0, b1, b2, b3, b4, b5, b6, bz⟩ := blk7' HBX.out
          have hbz := lt_of_blk' HBX.out
          go_wp2_with fail
          refine HENT.out.mono ?_
          rintro e w2 ⟨hkp, hin⟩
          have HKP := hid hkp
          clear hkp HENT b0 b1 b2 b3 b4 b5 b6 bz hbz
          rcases hin with ⟨v, hv, rfl, hst, hrel⟩ | ⟨rfl, D1, hst, hln, hrel⟩
          · have hv' : (v == 0) = false := by simpa using hv
            have HST := hid hst
            have HRL := hid hrel
            clear hst hrel hv
            go_wp2_with fail
            go_ret
            exact HMK.out v D _ _ rfl HST.out HRL.out
          · obtain ⟨G1, ⟨s1, va1, rs1, hR1⟩, hsub, hfr⟩ := hst
            have hi1 : i < D1.sks.length := by rw [hln, HN.out]; exact HI.out
            obtain ⟨g1, gc1, rfl, hg1, q0, q1, q2, q3, q4, q5, q6, qz⟩ := hR1.cells7 hi1
            obtain ⟨c0, c1, c2, cz⟩ := blk3 hR1.blk
            have hdz := lt_of_blk' hR1.blk
            have HR1 := hid hR1
            have HI1 := hid hi1
            have HAT := hid (fun (w3 : World) (h : RStep G1 w2 w3 d { D1 with sks := D1.sks.set i { D1.sks.getD i Hd.none with taken := H.taken ++ [(b, c)] } }) => RStep.andThen hsub hfr h)
            rw [HDS.out] at hrel
            have HRL := hid hrel
            have HCL2 : Hid (∀ j, j < m → ∃ gl, lo9 = some ⟨gl, 0, none⟩ ∧ gl < w2.heap.size ∧ w2.cell? ⟨gl, j * 2, none⟩ = some (.int .i64 ((H.taken.getD j (0, 0)).1 : Int)) ∧ w2.cell? ⟨gl, j * 2 + 1, none⟩ = some (.int .i64 ((H.taken.getD j (0, 0)).2 : Int))) := fun j hj => by
              obtain ⟨gl, e, ⟨cc, hbl⟩, p0, p1⟩ := HCL.out j hj
              have hkk := HKP.out.2 gl cc hbl
              exact ⟨gl, e, Nat.lt_of_lt_of_le (lt_of_blk' hbl) HKP.out.1, (cell_of_blk hkk).trans p0, (cell_of_blk hkk).trans p1⟩
            rw [hln, HN.out] at c2
            clear hR1 hsub hfr hrel hln hi1 q0 q1 q2 q3 q4 q5
            obtain ⟨i0, hi0, hz0, hz1, hz2⟩ := info_parts Tryz.infoRep
            go_wp2_with fail
            go_loopw [17, 18] (fun st si wr => ∃ (j : Nat) (to9 : Option Addr) (tc9 : Nat), j ≤ m ∧ si = .int .i64 (j : Int) ∧ st = .slice to9 j tc9 ∧ Hid (wr.ownsRow w2.heap.size 134 2 (.slice to9 j tc9) j (tkCells (H.taken.take j))) ∧ Hid (Below w2.heap.size w2 wr)) (fun _ si _ => m - (intOf si).toNat)
            case atStart => exact ⟨0, none, 0, Nat.zero_le _, rfl, rfl, World.ownsRow_nil _ _ _ _, Below.refl _ _⟩
            case round =>
              obtain ⟨j, to9, tc9, hj2, rfl, rfl, Ho, Hb⟩ := hrel
              by_cases hlt : j < m
              · obtain ⟨gl, rfl, hgl, p0, p1⟩ := HCL2.out j hlt
                have r0 := (Hb.out.cell (p := ⟨gl, j * 2, none⟩) hgl).trans p0
                have r1 := (Hb.out.cell (p := ⟨gl, j * 2 + 1, none⟩) hgl).trans p1
                have hglz := Nat.lt_of_lt_of_le hgl Hb.out.size
                have HTK : Hid (tkCells (H.taken.take (j + 1)) = tkCells (H.taken.take j) ++ tkCells [H.taken.getD j (0, 0)]) := by
                  have hlt' : j < H.taken.length := by rw [HML.out]; exact hlt
                  rw [Hid, List.take_succ_eq_append_getElem hlt', tkCells_snoc]
                  simp [List.getD, hlt', tkCells]
                generalize H.taken.getD j (0, 0) = p at *
                obtain ⟨x, y⟩ := p
                simp only at r0 r1
                clear p0 p1
                go_wp2_with (at_builtin; refine wpList_append_lies _ rfl (.tmp 99) (.tmp 104) 69 rfl w2.heap.size 134 i0 (.agg #[.int .i64 0, .int .i64 0]) 2 16 Tryz.underlying69 hi0 hz0 hz1 hz2 rfl (by decide) (.slice to9 j tc9) j (tkCells (H.taken.take j)) rfl (Ho.out.alloc _) ⟨wr.heap.size, 0, none⟩ 1 1 (tkCells [(x, y)]) rfl rfl (two_tk _ _ _ _) (tkCells_one _ _) (by decide) (by unfold maxLen; omega) (by omega) (by have := Hb.out.size; simp; omega) (wr.heap.size + 1) (by simp) ?_; intro g3 cap3 w3 hown3 hgrow3 hat3 hlt3; have HO3 : Hid (w3.ownsRow w2.heap.size 134 2 (.slice (some ⟨g3, 0, none⟩) (j + 1) cap3) (j + 1) (tkCells (H.taken.take (j + 1)))) := (by rw [HTK.out]; exact hown3); have HB3 := hid ((Hb.out.alloc Hb.out.size _).grown hgrow3 (by have := Hb.out.size; simp; omega) (fun k e => (Ho.out.lt _ e).1)); clear hown3 hgrow3 hat3 hlt3)
                go_roundw
                case rel => exact ⟨j + 1, _, _, by omega, by go_num, rfl, HO3, HB3⟩
                case measure => simp [intOf]; omega
              · obtain rfl : m = j := by omega
                have HO9 : Hid (wr.ownsRow w2.heap.size 134 2 (.slice to9 m tc9) m (tkCells H.taken)) := by
                  have := Ho.out
                  rw [List.take_of_length_le (by rw [HML.out]; exact Nat.le_refl _)] at this
                  exact this
                have z1 := (Hb.out.cell (p := ⟨g1, i * 7 + 6, none⟩) hg1).trans q6
                have z2 := (Hb.out.cell (p := ⟨d, 2, none⟩) hdz).trans c2
                have z3 := fun o => (frozen_below Hb.out hg1 o).trans (qz o)
                have z4 := Nat.lt_of_lt_of_le hg1 Hb.out.size
                have z5 := Nat.lt_of_lt_of_le hdz Hb.out.size
                clear hlt
                go_upto_region 26 with fail
                go_region_law ((refine step_append_lies _ (by rfl) (.tmp 111) (.tmp 115) 69 (by rfl) w2.heap.size 134 i0 (.agg #[.int .i64 0, .int .i64 0]) 2 16 Tryz.underlying69 hi0 hz0 hz1 hz2 rfl (by decide) (.slice to9 m tc9) m (tkCells H.taken) (by rfl) (HO9.out.alloc _) ⟨wr.heap.size, 0, none⟩ 1 1 (tkCells [(b, c)]) (by rfl) rfl (two_tk _ _ _ _) (tkCells_one _ _) (by decide) (by unfold maxLen; omega) (by omega) (by have := Hb.out.size; first | (simp; omega) | (show w2.heap.size ≤ (wr.alloc _).heap.size; simp; omega)) (wr.heap.size + 1) (by simp) ?_; intro g3 cap3 w3 hown3 hgrow3 hat3 hlt3; have HO3 : Hid (w3.ownsRow w2.heap.size 134 2 (.slice (some ⟨g3, 0, none⟩) (m + 1) cap3) (m + 1) (tkCells (H.taken ++ [(b, c)]))) := (by rw [Hid, tkCells_snoc]; exact hown3); have HB3 := hid ((Hb.out.alloc Hb.out.size (.cells #[.int .i64 (b : Int), .int .i64 (c : Int)] 134 (0, 0))).grown (by first | exact grown_undrew hgrow3 | exact hgrow3) (by have := Hb.out.size; simp; omega) (fun k e => (HO9.out.lt _ e).1)); have y1 := (HB3.out.cell (p := ⟨g1, i * 7 + 6, none⟩) hg1).trans q6; have y2 := (HB3.out.cell (p := ⟨d, 2, none⟩) hdz).trans c2; have y3 := fun o => (frozen_below HB3.out hg1 o).trans (qz o); have y4 := Nat.lt_of_lt_of_le hg1 HB3.out.size; have y5 := Nat.lt_of_lt_of_le hdz HB3.out.size; clear hown3 hgrow3 hat3 hlt3))
                all_goals
                  have HST := hid (HAT.out _ (rreport_st (i := i) (l := H.taken ++ [(b, c)]) (v := .slice (some ⟨g3, 0, none⟩) (m + 1) cap3) HR1.out HI1.out HB3.out (by rw [show (H.taken ++ [(b, c)]).length = m + 1 by rw [List.length_append, HML.out]; rfl]; exact HO3.out)))
                  clear HO3 HB3 y1 y2 y3 y4 y5
                  go_wp2_with fail
                  go_ret
                  exact HMK.out 0 _ _ _ rfl (by first | exact HST.out | exact HST.out.drew) HRL.out

theorem rtakeT (d : Nat) (A B C : Int) (t : ByteArray) (D : Dk) (w : World) (h : RAt G w d D) (hd : LInv D) (ht : t.size ≤ 140737488355328) :
    Calls Tryz.prog 36 #[.pointer (some ⟨d, 0, none⟩), .int .i64 A, .int .i64 B, .int .i64 C, .string t] w fun e w' => ∃ c D', e = .returned (.int .i64 c) ∧ RStep G w w' d D' ∧ TakeRel A B C t D c D' := by
  cases hs : hasB A D.sks.length with
  | false => exact (rtake_no d A B C t D w h hs).mono (fun e w' ⟨he, hw⟩ => ⟨4, D, he, by rw [hw]; exact RStep.of_below h (Below.refl _ _), .inl ⟨rfl, hs, rfl⟩⟩)
  | true =>
    obtain ⟨i, rfl, hi⟩ := hasB_at hs
    cases hse : (D.sks.getD i Hd.none).sealed with
    | true => exact (rtake_sealed d i B C t D w h hi hse).mono (fun e w' ⟨he, hw⟩ => ⟨5, D, he, by rw [hw]; exact RStep.of_below h (Below.refl _ _), .inr ⟨i, rfl, hi, .inl ⟨rfl, hse, rfl⟩⟩⟩)
    | false =>
      by_cases hr : 0 ≤ B ∧ B ≤ 255 ∧ 0 ≤ C
      · obtain ⟨b, rfl⟩ : ∃ b : Nat, B = (b : Int) := ⟨B.toNat, by omega⟩
        obtain ⟨c, rfl⟩ : ∃ c : Nat, C = (c : Int) := ⟨C.toNat, by omega⟩
        exact (rtake_in d i b c t D w h hd hi hse (by omega) ht).mono (fun e w' ⟨_, hp⟩ => hp)
      · exact (rtake_arg d i B C t D w h hi hse hr).mono (fun e w' ⟨he, hw⟩ => ⟨1, D, he, by rw [hw]; exact RStep.of_below h (Below.refl _ _), .inr ⟨i, rfl, hi, .inr ⟨hse, .inl ⟨rfl, hr, rfl⟩⟩⟩⟩)

end Go.Proofs.YtklicjbpjigfdabGreat

/- DERIVED. One step on both desks: Seal, Take. -/
namespace Go.Proofs.YtklicjbpjigfdabGreat
open Go.RowKit
attribute [local go_sem ↓] Go.wp_at_zero Go.wp_at_succ

set_option maxHeartbeats 2000000 in
set_option maxRecDepth 100000 in
theorem lseal_any (p pd pr : Nat) (a b c : Int) (s : ByteArray) (vl : Value) (D : Dk) (M : List Le) (w0 w : World) (h : LwSt w0 w p pd pr D D M) (hd : LInv D) (hx : ∀ i, i < M.length → (M.getD i Le.none).xs.length ≤ 1099511627776) :
    Calls Tryz.prog 15 #[.pointer (some ⟨p, 0, none⟩), opVal 15 a b c s vl] w fun e w' => e = .returned (.bool true) ∧ StepPost w0 p pd pr M w' := by
  have k0 := (h.box (opBlk 15 a b c s vl)).drew
  have b0 : (w.alloc (opBlk 15 a b c s vl)).drew.heap[w.heap.size]? = some (opBlk 15 a b c s vl) := heap_alloc_new w _
  obtain ⟨F, hdk, hstep⟩ := k0.prog
  have HF := hid (sealT pd a D _ hdk)
  have HST := hid hstep
  obtain ⟨c0, c1, hpz, hqz⟩ := k0.cells
  obtain ⟨q0, q1, q2, q3, q4, q5⟩ := blk6 b0
  have HB0 := hid b0
  have HR2 := hid (fun (G : Nat → Prop) (W : World) (hr : RAt G W pr D) => rseal_any pr a D W hr)
  have HNU := hid (fun (v : Int) (W : World) => lnum_any v W)
  have HLI := hid hd
  have HX := hid hx
  have hS0 : (w.alloc (opBlk 15 a b c s vl)).drew.cell? ⟨p, 0, none⟩ = some (.pointer (some ⟨pd, 0, none⟩)) ∧ (w.alloc (opBlk 15 a b c s vl)).drew.cell? ⟨w.heap.size, 1, none⟩ = some (.int .i64 a) := ⟨c0, q1⟩
  have c0' : (w.alloc (opBlk 15 a b c s vl)).cell? ⟨p, 0, none⟩ = some (.pointer (some ⟨pd, 0, none⟩)) := c0
  have hpz' : p < (w.alloc (opBlk 15 a b c s vl)).heap.size := hpz
  clear h k0 hdk hstep hd hx b0 c0 c1 hpz q1 q2 q3 q5
  go_enter Tryz.func15, Tryz.ntmps15
  go_wp2_with fail
  go_region_held3 (fun w' => w'.cell? ⟨p, 0, none⟩ = some (.pointer (some ⟨pd, 0, none⟩)) ∧ w'.cell? ⟨w.heap.size, 1, none⟩ = some (.int .i64 a)) (first | with_reducible exact hS0 | with_reducible exact hS3 | go_keep) (first | (go_at_call 33; refine HF.out.mono ?_; rintro e w1 ⟨c1, D1, rfl, hst1, hr1⟩; obtain ⟨k1, e1⟩ := HST.out w1 D1 hst1; have b1 := e1.trans HB0.out; have hS3 : w1.cell? ⟨p, 0, none⟩ = some (.pointer (some ⟨pd, 0, none⟩)) ∧ w1.cell? ⟨w.heap.size, 1, none⟩ = some (.int .i64 a) := ⟨k1.cells.1, (blk6 b1).2.1⟩))
  have HK1 := hid k1.drew
  have HB1 : Hid (w1.drew.heap[w.heap.size]? = some (opBlk 15 a b c s vl)) := b1
  have HRL1 := hid hr1
  obtain ⟨d0, d1, hpz1, hqz1⟩ := k1.cells
  obtain ⟨y0, y1, y2, y3, y4, y5⟩ := blk6 b1
  have hS0' : w1.drew.cell? ⟨p, 1, none⟩ = some (.pointer (some ⟨pr, 0, none⟩)) ∧ w1.drew.cell? ⟨w.heap.size, 1, none⟩ = some (.int .i64 a) := ⟨d1, y1⟩
  clear hS0 hS3 k1 e1 b1 hr1 hst1 HF HST HB0 y1 y2 y3 y5 d0 q0 q4 c0' hpz'
  obtain ⟨G, hra, hstep2⟩ := HK1.out.doc
  have HF2 := hid (HR2.out G _ hra)
  have HST2 := hid hstep2
  clear hra hstep2 HR2
  go_wp2_with fail
  go_region_held3 (fun w' => w'.cell? ⟨p, 1, none⟩ = some (.pointer (some ⟨pr, 0, none⟩)) ∧ w'.cell? ⟨w.heap.size, 1, none⟩ = some (.int .i64 a)) (first | with_reducible exact hS0' | with_reducible exact hS4 | go_keep) (first | (go_at_call 34; refine HF2.out.mono ?_; rintro e w2 ⟨c2, D2, rfl, hst2, hr2⟩; obtain ⟨k2, e2⟩ := HST2.out w2 D2 hst2; have b2 := e2.trans HB1.out; have hS4 : w2.cell? ⟨p, 1, none⟩ = some (.pointer (some ⟨pr, 0, none⟩)) ∧ w2.cell? ⟨w.heap.size, 1, none⟩ = some (.int .i64 a) := ⟨k2.cells.2.1, (blk6 b2).2.1⟩))
  obtain ⟨hcc, hDD⟩ := HRL1.out.det hr2
  subst hcc
  subst hDD
  have HFIN : Hid (StepPost w0 p pd pr M w2) := StepPost.same k2.st (hr2.linv HLI.out) HX.out
  clear k2 e2 b2 hr2 hst2 hS4 hS0' HST2 HF2 HK1 HB1 HRL1
  have hcb : (c1 == c1) = true := by simp
  go_wp2_with (go_at_call 11; refine (HNU.out _ _).mono ?_; rintro e w' ⟨rfl, hw⟩; obtain rfl := hw.symm)
  go_ret
  exact ⟨rfl, HFIN.out⟩

set_option maxHeartbeats 2000000 in
set_option maxRecDepth 100000 in
theorem ltake_any (p pd pr : Nat) (a b c : Int) (s : ByteArray) (vl : Value) (D : Dk) (M : List Le) (w0 w : World) (h : LwSt w0 w p pd pr D D M) (hd : LInv D) (hx : ∀ i, i < M.length → (M.getD i Le.none).xs.length ≤ 1099511627776) (hs : s.size ≤ 140737488355328) :
    Calls Tryz.prog 15 #[.pointer (some ⟨p, 0, none⟩), opVal 16 a b c s vl] w fun e w' => e = .returned (.bool true) ∧ StepPost w0 p pd pr M w' := by
  have k0 := (h.box (opBlk 16 a b c s vl)).drew
  have b0 : (w.alloc (opBlk 16 a b c s vl)).drew.heap[w.heap.size]? = some (opBlk 16 a b c s vl) := heap_alloc_new w _
  obtain ⟨F, hdk, hstep⟩ := k0.prog
  have HF := hid (takeT pd a b c s D _ hdk hd.inv hs)
  have HST := hid hstep
  obtain ⟨c0, c1, hpz, hqz⟩ := k0.cells
  obtain ⟨q0, q1, q2, q3, q4, q5⟩ := blk6 b0
  have HB0 := hid b0
  have HR2 := hid (fun (G : Nat → Prop) (W : World) (hr : RAt G W pr D) => rtakeT pr a b c s D W hr hd hs)
  have HNU := hid (fun (v : Int) (W : World) => lnum_any v W)
  have HLI := hid hd
  have HX := hid hx
  have hS0 : (w.alloc (opBlk 16 a b c s vl)).drew.cell? ⟨p, 0, none⟩ = some (.pointer (some ⟨pd, 0, none⟩)) ∧ (w.alloc (opBlk 16 a b c s vl)).drew.cell? ⟨w.heap.size, 1, none⟩ = some (.int .i64 a) ∧ (w.alloc (opBlk 16 a b c s vl)).drew.cell? ⟨w.heap.size, 2, none⟩ = some (.int .i64 b) ∧ (w.alloc (opBlk 16 a b c s vl)).drew.cell? ⟨w.heap.size, 3, none⟩ = some (.int .i64 c) ∧ (w.alloc (opBlk 16 a b c s vl)).drew.cell? ⟨w.heap.size, 4, none⟩ = some (.string s) := ⟨c0, q1, q2, q3, q4⟩
  have c0' : (w.alloc (opBlk 16 a b c s vl)).cell? ⟨p, 0, none⟩ = some (.pointer (some ⟨pd, 0, none⟩)) := c0
  have hpz' : p < (w.alloc (opBlk 16 a b c s vl)).heap.size := hpz
  clear h k0 hdk hstep hd hx b0 c0 c1 hpz q1 q2 q3 q5
  go_enter Tryz.func15, Tryz.ntmps15
  go_wp2_with fail
  go_region_held3 (fun w' => w'.cell? ⟨p, 0, none⟩ = some (.pointer (some ⟨pd, 0, none⟩)) ∧ w'.cell? ⟨w.heap.size, 1, none⟩ = some (.int .i64 a) ∧ w'.cell? ⟨w.heap.size, 2, none⟩ = some (.int .i64 b) ∧ w'.cell? ⟨w.heap.size, 3, none⟩ = some (.int .i64 c) ∧ w'.cell? ⟨w.heap.size, 4, none⟩ = some (.string s)) (first | with_reducible exact hS0 | with_reducible exact hS3 | go_keep) (first | (go_at_call 35; refine HF.out.mono ?_; rintro e w1 ⟨c1, D1, rfl, hst1, hr1⟩; obtain ⟨k1, e1⟩ := HST.out w1 D1 hst1; have b1 := e1.trans HB0.out; have hS3 : w1.cell? ⟨p, 0, none⟩ = some (.pointer (some ⟨pd, 0, none⟩)) ∧ w1.cell? ⟨w.heap.size, 1, none⟩ = some (.int .i64 a) ∧ w1.cell? ⟨w.heap.size, 2, none⟩ = some (.int .i64 b) ∧ w1.cell? ⟨w.heap.size, 3, none⟩ = some (.int .i64 c) ∧ w1.cell? ⟨w.heap.size, 4, none⟩ = some (.string s) := ⟨k1.cells.1, (blk6 b1).2.1, (blk6 b1).2.2.1, (blk6 b1).2.2.2.1, (blk6 b1).2.2.2.2.1⟩))
  have HK1 := hid k1.drew
  have HB1 : Hid (w1.drew.heap[w.heap.size]? = some (opBlk 16 a b c s vl)) := b1
  have HRL1 := hid hr1
  obtain ⟨d0, d1, hpz1, hqz1⟩ := k1.cells
  obtain ⟨y0, y1, y2, y3, y4, y5⟩ := blk6 b1
  have hS0' : w1.drew.cell? ⟨p, 1, none⟩ = some (.pointer (some ⟨pr, 0, none⟩)) ∧ w1.drew.cell? ⟨w.heap.size, 1, none⟩ = some (.int .i64 a) ∧ w1.drew.cell? ⟨w.heap.size, 2, none⟩ = some (.int .i64 b) ∧ w1.drew.cell? ⟨w.heap.size, 3, none⟩ = some (.int .i64 c) ∧ w1.drew.cell? ⟨w.heap.size, 4, none⟩ = some (.string s) := ⟨d1, y1, y2, y3, y4⟩
  clear hS0 hS3 k1 e1 b1 hr1 hst1 HF HST HB0 y1 y2 y3 y5 d0 q0 q4 c0' hpz'
  obtain ⟨G, hra, hstep2⟩ := HK1.out.doc
  have HF2 := hid (HR2.out G _ hra)
  have HST2 := hid hstep2
  clear hra hstep2 HR2
  go_wp2_with fail
  go_region_held3 (fun w' => w'.cell? ⟨p, 1, none⟩ = some (.pointer (some ⟨pr, 0, none⟩)) ∧ w'.cell? ⟨w.heap.size, 1, none⟩ = some (.int .i64 a) ∧ w'.cell? ⟨w.heap.size, 2, none⟩ = some (.int .i64 b) ∧ w'.cell? ⟨w.heap.size, 3, none⟩ = some (.int .i64 c) ∧ w'.cell? ⟨w.heap.size, 4, none⟩ = some (.string s)) (first | with_reducible exact hS0' | with_reducible exact hS4 | go_keep) (first | (go_at_call 36; refine HF2.out.mono ?_; rintro e w2 ⟨c2, D2, rfl, hst2, hr2⟩; obtain ⟨k2, e2⟩ := HST2.out w2 D2 hst2; have b2 := e2.trans HB1.out; have hS4 : w2.cell? ⟨p, 1, none⟩ = some (.pointer (some ⟨pr, 0, none⟩)) ∧ w2.cell? ⟨w.heap.size, 1, none⟩ = some (.int .i64 a) ∧ w2.cell? ⟨w.heap.size, 2, none⟩ = some (.int .i64 b) ∧ w2.cell? ⟨w.heap.size, 3, none⟩ = some (.int .i64 c) ∧ w2.cell? ⟨w.heap.size, 4, none⟩ = some (.string s) := ⟨k2.cells.2.1, (blk6 b2).2.1, (blk6 b2).2.2.1, (blk6 b2).2.2.2.1, (blk6 b2).2.2.2.2.1⟩))
  obtain ⟨hcc, hDD⟩ := HRL1.out.det hr2
  subst hcc
  subst hDD
  have HFIN : Hid (StepPost w0 p pd pr M w2) := StepPost.same k2.st (hr2.linv HLI.out) HX.out
  clear k2 e2 b2 hr2 hst2 hS4 hS0' HST2 HF2 HK1 HB1 HRL1
  have hcb : (c1 == c1) = true := by simp
  go_wp2_with (go_at_call 11; refine (HNU.out _ _).mono ?_; rintro e w' ⟨rfl, hw⟩; obtain rfl := hw.symm)
  go_ret
  exact ⟨rfl, HFIN.out⟩

end Go.Proofs.YtklicjbpjigfdabGreat

/- DERIVED. One step on both desks: any kind. -/
namespace Go.Proofs.YtklicjbpjigfdabGreat
open Go.RowKit
attribute [local go_sem ↓] Go.wp_at_zero Go.wp_at_succ
set_option linter.unusedVariables false

set_option maxHeartbeats 1000000 in
theorem step15_any (p pd pr : Nat) (a b c : Int) (s : ByteArray) (lo : Option Addr) (ln lc : Nat) (C : List Int) (D : Dk) (M : List Le) (w0 w : World) (hC : IntsG w lo ln C) (hl : ln ≤ 17592186044416) (h : LwSt w0 w p pd pr D D M) (hd : LInv D) (hx : ∀ i, i < M.length → (M.getD i Le.none).xs.length ≤ 1099511627776) (hm : M.length ≤ 4398046511104) (hs : s.size ≤ 140737488355328) (ha : -9223372036854775808 ≤ a ∧ a ≤ 9223372036854775807) (hb : -9223372036854775808 ≤ b ∧ b ≤ 9223372036854775807) :
    Calls Tryz.prog 7 #[.pointer (some ⟨p, 0, none⟩), opVal 15 a b c s (.slice lo ln lc)] w fun e w' => e = .returned (.bool true) ∧ StepPost w0 p pd pr M w' := by
  have hA := h.below (below_new_al (opBlk 15 a b c s (.slice lo ln lc)))
  have hCA := hC.below (below_new_al (opBlk 15 a b c s (.slice lo ln lc)))
  have HC := hid (lseal_any p pd pr a b c s (.slice lo ln lc) D M w0 _ hA hd hx)
  clear h hd hx hm hs ha hb hA hC hCA hl
  go_enter Tryz.func7, Tryz.ntmps7
  go_wp2_with fail
  refine HC.out.mono ?_
  rintro e w1 ⟨rfl, hsp⟩
  have HSP := hid hsp
  clear hsp HC
  go_wp2_with fail
  go_ret
  exact ⟨rfl, HSP.out⟩

set_option maxHeartbeats 1000000 in
theorem step16_any (p pd pr : Nat) (a b c : Int) (s : ByteArray) (lo : Option Addr) (ln lc : Nat) (C : List Int) (D : Dk) (M : List Le) (w0 w : World) (hC : IntsG w lo ln C) (hl : ln ≤ 17592186044416) (h : LwSt w0 w p pd pr D D M) (hd : LInv D) (hx : ∀ i, i < M.length → (M.getD i Le.none).xs.length ≤ 1099511627776) (hm : M.length ≤ 4398046511104) (hs : s.size ≤ 140737488355328) (ha : -9223372036854775808 ≤ a ∧ a ≤ 9223372036854775807) (hb : -9223372036854775808 ≤ b ∧ b ≤ 9223372036854775807) :
    Calls Tryz.prog 7 #[.pointer (some ⟨p, 0, none⟩), opVal 16 a b c s (.slice lo ln lc)] w fun e w' => e = .returned (.bool true) ∧ StepPost w0 p pd pr M w' := by
  have hA := h.below (below_new_al (opBlk 16 a b c s (.slice lo ln lc)))
  have hCA := hC.below (below_new_al (opBlk 16 a b c s (.slice lo ln lc)))
  have HC := hid (ltake_any p pd pr a b c s (.slice lo ln lc) D M w0 _ hA hd hx hs)
  clear h hd hx hm hs ha hb hA hC hCA hl
  go_enter Tryz.func7, Tryz.ntmps7
  go_wp2_with fail
  refine HC.out.mono ?_
  rintro e w1 ⟨rfl, hsp⟩
  have HSP := hid hsp
  clear hsp HC
  go_wp2_with fail
  go_ret
  exact ⟨rfl, HSP.out⟩

theorem stepD_any (p pd pr : Nat) (kd : Int) (a b c : Int) (s : ByteArray) (lo : Option Addr) (ln lc : Nat) (C : List Int) (D : Dk) (M : List Le) (w0 w : World) (hC : IntsG w lo ln C) (hl : ln ≤ 17592186044416) (h : LwSt w0 w p pd pr D D M) (hd : LInv D) (hx : ∀ i, i < M.length → (M.getD i Le.none).xs.length ≤ 1099511627776) (hm : M.length ≤ 4398046511104) (hs : s.size ≤ 140737488355328) (ha : -9223372036854775808 ≤ a ∧ a ≤ 9223372036854775807) (hb : -9223372036854775808 ≤ b ∧ b ≤ 9223372036854775807) (hk : kd ≤ 16 ∨ kd = 17) :
    Calls Tryz.prog 7 #[.pointer (some ⟨p, 0, none⟩), opVal kd a b c s (.slice lo ln lc)] w fun e w' => e = .returned (.bool true) ∧ StepPost w0 p pd pr M w' := by
  by_cases h1 : kd ≤ 14 ∨ kd = 17
  · exact stepC_any p pd pr kd a b c s lo ln lc C D M w0 w hC hl h hd hx hm hs ha hb h1
  · have h2 : kd = 15 ∨ kd = 16 := by omega
    rcases h2 with rfl | rfl
    · exact step15_any p pd pr a b c s lo ln lc C D M w0 w hC hl h hd hx hm hs ha hb
    · exact step16_any p pd pr a b c s lo ln lc C D M w0 w hC hl h hd hx hm hs ha hb

end Go.Proofs.YtklicjbpjigfdabGreat

/- DERIVED. A script is played on both desks: any kind. -/
namespace Go.Proofs.YtklicjbpjigfdabGreat
open Go.RowKit
attribute [local go_sem ↓] Go.wp_at_zero Go.wp_at_succ

set_option maxHeartbeats 12000000 in
set_option maxRecDepth 100000 in
theorem playsD_any (room : Int) (ao : Option Addr) (n cap : Nat) (os : List Opr) (up lo hi : Int) (w : World) (hu : up ≤ 16) (hn : n ≤ 4398046511104) (ho : OpsAt w ao n os) (hok : ∀ i, i < n → (os.getD i Opr.zero).Ok) (hls : ∀ i, i < n → ∃ l1 l2 l3 C, (os.getD i Opr.zero).vl = .slice l1 l2 l3 ∧ IntsG w l1 l2 C ∧ l2 ≤ 17592186044416) :
    Calls Tryz.prog 5 #[.int .i64 room, .slice ao n cap, .int .i64 up, .int .i64 lo, .int .i64 hi] w fun e w' => e = .returned (.bool true) ∧ Below w.heap.size w w' := by
  by_cases hr : room < 1 ∨ 8 < room
  · have HB := hid (begun_no room w hr)
    clear hr ho hok hls
    go_enter Tryz.func5, Tryz.ntmps5
    go_wp2_with (go_at_call 6; refine HB.out.mono ?_; rintro e w' ⟨rfl, hw⟩; obtain rfl := hw.symm)
    go_ret
    exact ⟨rfl, Below.refl _ _⟩
  · obtain ⟨rm, rfl⟩ : ∃ rm : Nat, room = (rm : Int) := ⟨room.toNat, by omega⟩
    have HB := hid (begun_ok rm w (by omega) (by omega))
    have HLI := hid (linv_first rm (by omega) (by omega))
    have HO := hid ho
    have HOK := hid hok
    have HLS := hid hls
    clear hr ho hok hls
    go_enter Tryz.func5, Tryz.ntmps5
    go_wp2_with fail
    refine HB.out.mono ?_
    rintro e w1 ⟨p, pd, pr, rfl, hst⟩
    have HS0 := hid hst
    clear hst HB
    go_wp2_with fail
    go_loopw [13] (fun si wr => ∃ (j : Nat) (D : Dk) (M : List Le), j ≤ n ∧ si = .int .i64 (j : Int) ∧ Hid (LwSt w wr p pd pr D D M ∧ LInv D ∧ M.length ≤ j ∧ ∀ i, i < M.length → (M.getD i Le.none).xs.length ≤ 1099511627776)) (fun si _ => n - (intOf si).toNat)
    case atStart => exact ⟨0, _, [], Nat.zero_le _, rfl, HS0.out, HLI.out, Nat.zero_le _, fun i hi => by simp at hi⟩
    case round =>
      obtain ⟨j, D, M, hj, rfl, Hs⟩ := hrel
      clear HS0 HLI
      by_cases hlt : j < n
      · obtain ⟨b, off, rfl, hbz, r0, r1, r2, r3, r4, r5⟩ := HO.out j hlt
        have hbel : Below w.heap.size w wr := by
          obtain ⟨_, _, _, _, _, h3⟩ := Hs.out.1
          exact h3
        have hok := HOK.out j hlt
        obtain ⟨l1, l2, l3, C, el, hC, hl2⟩ := HLS.out j hlt
        rw [el] at r5
        have r0' := (hbel.cell (p := ⟨b, off + j * 6, none⟩) hbz).trans r0
        have r1' := (hbel.cell (p := ⟨b, off + j * 6 + 1, none⟩) hbz).trans r1
        have r2' := (hbel.cell (p := ⟨b, off + j * 6 + 2, none⟩) hbz).trans r2
        have r3' := (hbel.cell (p := ⟨b, off + j * 6 + 3, none⟩) hbz).trans r3
        have r4' := (hbel.cell (p := ⟨b, off + j * 6 + 4, none⟩) hbz).trans r4
        have r5' := (hbel.cell (p := ⟨b, off + j * 6 + 5, none⟩) hbz).trans r5
        have hbz' := Nat.lt_of_lt_of_le hbz hbel.size
        have hs1 : (0 : Int) ≤ (j : Int) := by omega
        have hs2 : (j : Int) < (n : Int) := by omega
        have oa := hok.a1
        have ob := hok.b1
        have osz := hok.s1
        generalize (os.getD j Opr.zero).kd = kd at *
        generalize (os.getD j Opr.zero).a = a at *
        generalize (os.getD j Opr.zero).b = bb at *
        generalize (os.getD j Opr.zero).c = cc at *
        generalize (os.getD j Opr.zero).s = s at *
        have hA := Hs.out.1.below (below_new_al (opBlk kd a bb cc s (.slice l1 l2 l3)))
        have HSA := hid hA
        have hCA := (hC.below hbel).below (below_new_al (opBlk kd a bb cc s (.slice l1 l2 l3)))
        clear r0 r1 r2 r3 r4 r5 hok el
        have HC := hid (fun (hkk : kd ≤ 16 ∨ kd = 17) => stepD_any p pd pr kd a bb cc s l1 l2 l3 C D M w _ hCA hl2 hA Hs.out.2.1 Hs.out.2.2.2 (by have := Hs.out.2.2.1; omega) osz oa ob hkk)
        have HMJ := hid Hs.out.2.2.1
        have HTL := hid Hs.out.2
        have HBX := hid (heap_alloc_new wr (opBlk kd a bb cc s (.slice l1 l2 l3)))
        clear hA Hs oa ob osz hC hCA hl2
        go_upto_region 8 with fail
        clear r0' r1' r2' r3' r4' r5' hbz' hs1 hs2 hbel hbz
        generalize wr.alloc (opBlk kd a bb cc s (.slice l1 l2 l3)) = wA at *
        generalize wr.heap.size = q at *
        obtain ⟨x0, x1, x2, x3, x4, x5⟩ := blk6 HBX.out
        have hqz := lt_of_blk' HBX.out
        go_cut [45] from 27 to 66 (fun s45 wd => s45 = .bool (decide (up < kd ∧ kd ≠ 17)) ∧ wd = wA)
        case first =>
          by_cases g : up < kd
          · have g1 : decide (up < kd) = true := decide_eq_true g
            by_cases e17 : kd = 17
            · have g2 : (kd != 17) = false := by simp [e17]
              have HU : Hid (decide (up < kd ∧ kd ≠ 17) = false) := decide_eq_false (fun h => h.2 e17)
              go_wp2_with fail
              go_meet
              exact ⟨by rw [HU.out], rfl⟩
            · have g2 : (kd != 17) = true := by simpa using e17
              have HU : Hid (decide (up < kd ∧ kd ≠ 17) = true) := decide_eq_true ⟨g, e17⟩
              go_wp2_with fail
              go_meet
              exact ⟨by rw [HU.out], rfl⟩
          · have g1 : decide (up < kd) = false := decide_eq_false g
            have HU : Hid (decide (up < kd ∧ kd ≠ 17) = false) := decide_eq_false (fun h => g h.1)
            go_wp2_with fail
            go_meet
            exact ⟨by rw [HU.out], rfl⟩
        case rest =>
        obtain ⟨rfl, hwc⟩ := hcut
        obtain rfl := hwc.symm
        clear hwc
        by_cases hskip : up < kd ∧ kd ≠ 17
        · have hsk : decide (up < kd ∧ kd ≠ 17) = true := decide_eq_true hskip
          simp only [hsk]
          clear HC x0 x1 x2 x3 x4 x5 hskip hsk
          go_wp2_with fail
          go_roundw
          case rel => exact ⟨j + 1, D, M, by omega, by go_num, HSA.out, HTL.out.1, by have := HMJ.out; omega, HTL.out.2.2⟩
          case measure => simp [intOf]; omega
        · have hsk : decide (up < kd ∧ kd ≠ 17) = false := decide_eq_false hskip
          simp only [hsk]
          have HC2 := hid (HC.out (by
            by_cases e : kd = 17
            · exact .inr e
            · exact .inl (by
                have : ¬ up < kd := fun h => hskip ⟨h, e⟩
                omega)))
          clear HC hskip hsk
          go_wp2_with fail
          refine HC2.out.mono ?_
          rintro e w2 ⟨rfl, hsp⟩
          obtain ⟨D2, M2, h1, h2, h3, h4⟩ := hsp
          have HLK := hid (looks_any p pd pr D2 D2 M2 w w2 h1 (by have := HMJ.out; omega) h4)
          have HN2 : Hid (LwSt w w2 p pd pr D2 D2 M2 ∧ LInv D2 ∧ M2.length ≤ j + 1 ∧ ∀ i, i < M2.length → (M2.getD i Le.none).xs.length ≤ 1099511627776) := ⟨h1, h2, by have := HMJ.out; omega, h4⟩
          clear h1 h2 h3 h4 HC2 HMJ HTL HSA HBX x0 x1 x2 x3 x4 x5
          go_wp2_with fail
          refine HLK.out.mono ?_
          rintro e w3 ⟨rfl, hb3⟩
          have HN3 : Hid (LwSt w w3 p pd pr D2 D2 M2 ∧ LInv D2 ∧ M2.length ≤ j + 1 ∧ ∀ i, i < M2.length → (M2.getD i Le.none).xs.length ≤ 1099511627776) := ⟨HN2.out.1.below hb3, HN2.out.2⟩
          clear hb3 HLK HN2
          go_wp2_with fail
          go_roundw
          case rel => exact ⟨j + 1, D2, M2, by omega, by go_num, HN3⟩
          case measure => simp [intOf]; omega
      · have hbel : Below w.heap.size w wr := by
          obtain ⟨_, _, _, _, _, h3⟩ := Hs.out.1
          exact h3
        go_wp2_with fail
        go_ret
        exact ⟨rfl, hbel⟩

end Go.Proofs.YtklicjbpjigfdabGreat
