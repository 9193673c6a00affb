/- DERIVED. The walks of texts.Read, of the desk's Encode and Decode. -/
import Derived.Test.YtklicjbpjigfdabMo
import Derived.Test.YtklicjbpjigfdabMp
import Derived.Test.YtklicjbpjigfdabNd
import Derived.Test.YtklicjbpjigfdabNe
namespace Go.Proofs.Ytklicjbpjigfdab
open Go.RowKit
variable {F : Nat → Prop}
attribute [local go_sem ↓] Go.wp_at_zero Go.wp_at_succ

theorem bytesOf_txt {l : List Nat} (h : ∀ x ∈ l, x < 256) : bytesOf (txt l) = l := by
  unfold bytesOf txt
  simp only [List.map_map]
  conv => rhs; rw [← List.map_id l]
  apply List.map_congr_left
  intro x hx
  have := h x hx
  simp [UInt8.toNat_ofNat']
  omega
theorem txt_bytesOf (t : ByteArray) : txt (bytesOf t) = t := by
  unfold bytesOf txt
  cases t with
  | mk d =>
    simp only [List.map_map]
    congr 1
    apply Array.ext'
    simp only
    conv => rhs; rw [← List.map_id d.toList]
    apply List.map_congr_left
    intro x _
    simp
theorem txt_eq {l : List Nat} {t : ByteArray} (h : ∀ x ∈ l, x < 256) : txt l = t ↔ l = bytesOf t := by
  constructor
  · intro e; rw [← e, bytesOf_txt h]
  · intro e; rw [e, txt_bytesOf]

theorem told_times {t : List Nat} (h : ∀ x ∈ t, x < 256) (j : Nat) : ((toldS t).lv.getD j Lvl.none).times ≤ 549755813888 := by
  rw [List.getD_eq_getElem?_getD]
  cases e : (toldS t).lv[j]? with
  | none => simp [Lvl.none]
  | some l => have := ((toldS_fits h).lv l (List.mem_of_getElem? e)).2.1; simp; omega

theorem bl_yes {a b : ByteArray} (h : a = b) : (a.toList == b.toList) = true := by rw [h]; simp
theorem bl_no {a b : ByteArray} (h : ¬ a = b) : (a.toList == b.toList) = false := by
  rw [ByteArray.toList_eq, ByteArray.toList_eq, beq_eq_false_iff_ne]
  intro e
  apply h
  cases a; cases b
  simp only at e
  congr 1
  exact Array.ext' e

abbrev skNo : Value := .agg #[.int .i64 0, .slice none 0 0, .int .i64 0, .int .i64 0]

set_option maxHeartbeats 1000000 in
set_option maxRecDepth 100000 in
theorem read_any (t : ByteArray) (w : World) (ht : t.size ≤ 140737488355328) (hF : ∀ b, w.heap.size ≤ b → F b) :
    Calls Try.prog 34 #[.string t] w fun e w' => Below w.heap.size w w' ∧ (isText (bytesOf t) = false → e = .returned (.tuple #[skNo, .bool false])) ∧ (isText (bytesOf t) = true → ∃ g vs, e = .returned (.tuple #[skVal (toldS (bytesOf t)).k g (toldS (bytesOf t)).lv.length (toldS (bytesOf t)).lv.length (toldS (bytesOf t)).lo (toldS (bytesOf t)).hi, .bool true]) ∧ w.heap.size ≤ g ∧ LvAt F w' g (toldS (bytesOf t)).lv.length vs (toldS (bytesOf t)).lv) := by
  have HT := hid (told_any (F := F) t (w.alloc skZero) ht (fun b hb => hF b (by simp at hb; omega)))
  have HFT := hid (toldS_fits (bytesOf_lt t))
  have HTM := hid (told_times (bytesOf_lt t))
  have HIS : Hid (isText (bytesOf t) = (soundB (toldS (bytesOf t)) && decide (writeB (toldS (bytesOf t)) = bytesOf t))) := rfl
  have HTX := hid (txt_eq (t := t) (writeB_lt (toldS (bytesOf t))))
  generalize isText (bytesOf t) = it at *
  generalize toldS (bytesOf t) = s at *
  obtain ⟨k, L, lo, hi⟩ := s
  have hres : (w.alloc skZero).heap[w.heap.size]? = some skZero := heap_alloc_new _ _
  have HRES := hid hres
  clear hres
  go_enter Try.func34, Try.ntmps34
  go_wp2_with fail
  refine HT.out.mono ?_
  rintro e w1 ⟨g, vs, rfl, hg, hL, hb⟩
  simp only at hL ⊢
  have HG : Hid (w.heap.size < g) := by unfold Hid; simp at hg; omega
  have HL := hid hL
  have HB := hid (((Below.refl _ _).alloc (Nat.le_refl _) _).trans (hb.mono (by simp)) : Below w.heap.size w w1)
  have HRES1 := hid ((hb.block _ (by simp)).trans HRES.out)
  have hz := hb.size
  simp at hz
  have HZ := hid hz
  have HSD := hid (sound_any (F := F) k g L.length lo hi vs L _ (hL.below ((Below.refl _ _).alloc (Nat.le_refl _) (skBlk k g L.length L.length lo hi))) HFT.out.k HFT.out.n (fun l hl => (HFT.out.lv l hl).1) HTM.out)
  have HSI := hid (shapeB_iff ⟨k, L, lo, hi⟩)
  have HSS : Hid (soundB ⟨k, L, lo, hi⟩ = true → shapeB ⟨k, L, lo, hi⟩ = true) := by
    intro h
    simp only [soundB, Bool.and_eq_true] at h
    exact h.1
  generalize hsb : soundB ⟨k, L, lo, hi⟩ = sb at *
  have HWR := hid (fun (h : sb = true) (w' : World) (hb : Below w1.heap.size w1 w') => write_any (F := F) k g L.length lo hi vs L w' (HL.out.below hb) (HSI.out.1 (HSS.out h)).2.1 (HSI.out.1 (HSS.out h)).2.2.2.1 (HSI.out.1 (HSS.out h)).2.2.2.2.2.2 HTM.out)
  generalize hwb : writeB ⟨k, L, lo, hi⟩ = wb at *
  clear hL hb hg hz hsb hwb HT HSI HSS HRES
  generalize hn : L.length = n at *
  have HN := hid hn
  clear hn
  have HBA : Hid (Below w1.heap.size w1 (w1.alloc (skBlk k g n n lo hi))) := (Below.refl _ _).alloc (Nat.le_refl _) _
  have HBX := hid (heap_alloc_new w1 (skBlk k g n n lo hi))
  go_wp2_with fail
  refine HSD.out.mono ?_
  rintro e w2 ⟨rfl, hb2⟩
  have HB2 := hid (HBA.out.trans (hb2.mono (by simp)))
  have HBX2 := hid ((hb2.block w1.heap.size (by simp)).trans HBX.out)
  have HRES2 := hid ((HB2.out.block w.heap.size (by have := HZ.out; omega)).trans HRES1.out)
  clear hb2 HSD
  obtain ⟨d0, d1, d2, d3, dz⟩ := blk4 HRES2.out
  obtain ⟨f0, f1, f2, f3, fz⟩ := blk4 HBX2.out
  cases h1 : sb with
  | false =>
    have HF : Hid (it = false) := by unfold Hid; rw [HIS.out, h1, Bool.false_and]
    go_wp2_with fail
    refine bodyPost_ret (v := .tuple #[skNo, .bool false]) (by simp [results, Try.results34, go_sem, d0, d1, d2, d3]) rfl ⟨?_, fun _ => rfl, fun h => by rw [HF.out] at h; cases h⟩
    exact below_set4 (HB.out.trans (HB2.out.mono HB.out.size)) (Nat.le_refl _) _ _ _ _
  | true =>
    have HE : Hid (it = decide (wb = bytesOf t)) := by unfold Hid; rw [HIS.out, h1, Bool.true_and]
    have H1 := hid h1
    clear h1
    go_wp2_with fail
    refine (HWR.out H1.out _ HB2.out).mono ?_
    rintro e w3 ⟨rfl, hb3⟩
    have HB3 := hid (HB2.out.trans (hb3.mono HB2.out.size))
    have HBX3 := hid ((hb3.block w1.heap.size (lt_of_blk' HBX2.out)).trans HBX2.out)
    have HRES3 := hid ((hb3.block w.heap.size (lt_of_blk' HRES2.out)).trans HRES2.out)
    clear hb3 HWR d0 d1 d2 d3 dz f0 f1 f2 f3 fz
    obtain ⟨d0, d1, d2, d3, dz⟩ := blk4 HRES3.out
    obtain ⟨f0, f1, f2, f3, fz⟩ := blk4 HBX3.out
    by_cases h2 : txt wb = t
    · have HY : Hid (it = true) := by unfold Hid; rw [HE.out, decide_eq_true_eq]; exact HTX.out.1 h2
      have h2' := bl_yes h2
      go_wp2_with fail
      refine bodyPost_ret (v := .tuple #[skVal k g n n lo hi, .bool true]) (by simp [results, Try.results34, go_sem, d0, d1, d2, d3]) rfl ⟨?_, (fun h => by rw [HY.out] at h; cases h), fun _ => ⟨g, vs, ?_, ?_, ?_⟩⟩
      · exact below_set4 (HB.out.trans (HB3.out.mono HB.out.size)) (Nat.le_refl _) _ _ _ _
      · simp only [HN.out]
      · exact Nat.le_of_lt HG.out
      · simp only [HN.out]
        refine (HL.out.below HB3.out).block (fun c hc => set4_other _ _ _ _ (fun e => ?_))
        subst e
        rcases hc with hc | ⟨c, hc⟩
        · have := HG.out; omega
        · rw [HRES3.out] at hc; cases hc
    · have HF : Hid (it = false) := by unfold Hid; rw [HE.out, decide_eq_false_iff_not]; exact fun e => h2 (HTX.out.2 e)
      have h2' := bl_no h2
      go_wp2_with fail
      refine bodyPost_ret (v := .tuple #[skNo, .bool false]) (by simp [results, Try.results34, go_sem, d0, d1, d2, d3]) rfl ⟨?_, fun _ => rfl, fun h => by rw [HF.out] at h; cases h⟩
      exact below_set4 (HB.out.trans (HB3.out.mono HB.out.size)) (Nat.le_refl _) _ _ _ _

set_option maxHeartbeats 1000000 in
set_option maxRecDepth 100000 in
theorem decode_no (d : Nat) (t : ByteArray) (w : World) (ht : t.size ≤ 140737488355328) (hi : isText (bytesOf t) = false) :
    Calls Try.prog 11 #[.pointer (some ⟨d, 0, none⟩), .string t] w fun e w' => e = .returned (.tuple #[.int .i64 0, .int .i64 9]) ∧ Below w.heap.size w w' := by
  have HR := hid (read_any (F := fun _ => True) t w ht (fun _ _ => trivial))
  have HI := hid hi
  clear hi
  go_enter Try.func11, Try.ntmps11
  go_wp2_with fail
  refine HR.out.mono ?_
  rintro e w1 ⟨hb, h1, _⟩
  obtain rfl := h1 HI.out
  have HB := hid hb
  clear h1 hb HR
  go_wp2_with fail
  go_ret2
  exact ⟨rfl, HB.out.alloc HB.out.size _⟩

set_option maxHeartbeats 1000000 in
set_option maxRecDepth 100000 in
theorem decode_ok (d : Nat) (D : Dk) (t : ByteArray) (w : World) (h : DeskAt F w d D) (ht : t.size ≤ 140737488355328) (hi : isText (bytesOf t) = true) (hr : D.sks.length < D.room) (hr2 : D.room ≤ 8) :
    Calls Try.prog 11 #[.pointer (some ⟨d, 0, none⟩), .string t] w fun e w' => e = .returned (.tuple #[.int .i64 (D.sks.length : Int), .int .i64 0]) ∧ DeskStep F w w' d { D with sks := D.sks ++ [⟨toldS (bytesOf t), false, []⟩] } := by
  have HR := hid (read_any (F := fun b => F b ∨ w.heap.size ≤ b) t w ht (fun _ h => .inr h))
  have HI := hid hi
  have HH := hid h
  generalize toldS (bytesOf t) = s at *
  clear h hi
  go_enter Try.func11, Try.ntmps11
  go_wp2_with fail
  refine HR.out.mono ?_
  rintro e w1 ⟨hb, _, h1⟩
  obtain ⟨g, vs, rfl, hg, hL⟩ := h1 HI.out
  have hal : Below w1.heap.size w1 (w1.alloc (skBlk s.k g s.lv.length s.lv.length s.lo s.hi)) := (Below.refl _ _).alloc (Nat.le_refl _) _
  have HD := hid (dbegin_any d g s.lv.length s vs D w _ HH.out (hb.trans (hal.mono hb.size)) (hL.below hal) hg hr hr2)
  clear hb h1 hg hL hal HR
  go_wp2_with fail
  refine HD.out.mono ?_
  rintro e w2 ⟨rfl, hst⟩
  have HST := hid hst
  clear hst
  go_wp2_with fail
  go_ret2
  exact ⟨rfl, HST.out⟩

set_option maxHeartbeats 1000000 in
set_option maxRecDepth 100000 in
theorem decode_full (d : Nat) (D : Dk) (t : ByteArray) (w : World) (h : DeskAt F w d D) (ht : t.size ≤ 140737488355328) (hi : isText (bytesOf t) = true) (hr : D.room ≤ D.sks.length) :
    Calls Try.prog 11 #[.pointer (some ⟨d, 0, none⟩), .string t] w fun e w' => e = .returned (.tuple #[.int .i64 0, .int .i64 3]) ∧ Below w.heap.size w w' := by
  have HR := hid (read_any (F := fun b => F b ∨ w.heap.size ≤ b) t w ht (fun _ h => .inr h))
  have HI := hid hi
  have HH := hid h
  generalize toldS (bytesOf t) = s at *
  clear h hi
  go_enter Try.func11, Try.ntmps11
  go_wp2_with fail
  refine HR.out.mono ?_
  rintro e w1 ⟨hb, _, h1⟩
  obtain ⟨g, vs, rfl, hg, hL⟩ := h1 HI.out
  have hal : Below w1.heap.size w1 (w1.alloc (skBlk s.k g s.lv.length s.lv.length s.lo s.hi)) := (Below.refl _ _).alloc (Nat.le_refl _) _
  have HBB := hid (hb.trans (hal.mono hb.size))
  have HD := hid (dbegin_full d g s.lv.length s D _ (HH.out.below HBB.out) hr)
  clear hb h1 hg hL hal HR
  go_wp2_with fail
  refine HD.out.mono ?_
  rintro e w2 ⟨rfl, hb2⟩
  have HB2 := hid (HBB.out.trans (hb2.mono HBB.out.size))
  clear hb2
  go_wp2_with fail
  go_ret2
  exact ⟨rfl, HB2.out⟩

set_option maxHeartbeats 400000 in
theorem encode_no (d : Nat) (D : Dk) (s : Int) (w : World) (h : DeskAt F w d D) (hs : hasB s D.sks.length = false) :
    Calls Try.prog 10 #[.pointer (some ⟨d, 0, none⟩), .int .i64 s] w fun e w' => e = .returned (.tuple #[.string ⟨#[]⟩, .int .i64 4]) ∧ w' = w := by
  obtain ⟨vt, vk, rs, h⟩ := h
  obtain ⟨ao, c, rfl, _⟩ := h.vkForm
  obtain ⟨_, _, c2, _⟩ := blk3 h.blk
  have HH := hid (has_any d s _ _ _ _ c2)
  rw [hs] at HH
  clear h
  go_enter Try.func10, Try.ntmps10
  go_wp2_with (go_at_call 32; refine HH.out.mono ?_; rintro e w' ⟨rfl, hw⟩; obtain rfl := hw.symm)
  go_ret2
  exact ⟨rfl, rfl⟩

set_option maxHeartbeats 400000 in
set_option maxRecDepth 100000 in
theorem encode_any (d : Nat) (D : Dk) (i : Nat) (w : World) (h : DeskAt F w d D) (hi : i < D.sks.length) (hok : (D.sks.getD i Hd.none).Ok) :
    Calls Try.prog 10 #[.pointer (some ⟨d, 0, none⟩), .int .i64 (i : Int)] w fun e w' => e = .returned (.tuple #[.string (txt (writeB (D.sks.getD i Hd.none).sk)), .int .i64 0]) ∧ Below w.heap.size w w' := by
  obtain ⟨vt, vk, rs, h⟩ := h
  obtain ⟨g, c, rfl, hg, q0, q1, q2, q3, q4⟩ := h.cells5 hi
  obtain ⟨_, _, c2, _⟩ := blk3 h.blk
  have HH := hid (has_any d (i : Int) _ _ _ _ c2)
  rw [hasB_nat hi] at HH
  have HL := hid (write_any (F := F) (D.sks.getD i Hd.none).sk.k _ _ (D.sks.getD i Hd.none).sk.lo (D.sks.getD i Hd.none).sk.hi _ _ w (h.lv i hi) hok.k2 hok.len hok.cnt hok.tms)
  generalize (D.sks.getD i Hd.none).sk = sk at *
  generalize rs.getD i Ref.none = r at *
  generalize (D.sks.getD i Hd.none).sealed = sl at *
  generalize D.sks.length = n at *
  clear h hok
  go_enter Try.func10, Try.ntmps10
  go_wp2_with (first | (go_at_call 32; refine HH.out.mono ?_; rintro e w' ⟨rfl, hw⟩; obtain rfl := hw.symm) | (go_at_call 33; refine HL.out.mono ?_; rintro e w1 ⟨rfl, hb1⟩; have HB1 := hid hb1; clear hb1))
  go_ret2
  exact ⟨rfl, HB1.out⟩

end Go.Proofs.Ytklicjbpjigfdab
