/- DERIVED. The walks of the statement's own changed and refused. -/
import Derived.Test.YtklicjbpjigfdabDecodeW
import Derived.Test.YtklicjbpjigfdabNa
import Derived.Test.YtklicjbpjigfdabMq
import Derived.Lib.ConvBytes
import Derived.Laws.BitsAllLaws
import Derived.Deep.Cut
import Derived.Deep.CutRange
import Derived.Deep.RegionWith
import Derived.Test.YtklicjbpjigfdabNe
namespace Go.Proofs.Ytklicjbpjigfdab
open Go.RowKit
attribute [local go_sem ↓] Go.wp_at_zero Go.wp_at_succ

/-- A row of bytes out of a text. -/
theorem conv_bytes (t : ByteArray) (w : World) : ∃ cap W, (convert 9 45 (.string t)).run Try.prog w = .ok (.slice (some ⟨w.heap.size, 0, none⟩) t.size cap) W ∧ Below w.heap.size w W ∧ w.heap.size < W.heap.size ∧ (∀ j, j < t.size → W.cell? ⟨w.heap.size, j, none⟩ = some (.int .u8 (((bytesOf t).getD j 0 : Nat) : Int)) ∧ W.frozen? ⟨w.heap.size, j, none⟩ = false) := by
  refine ⟨_, _, Go.Lib.run_convert_string_bytes (P := Try.prog) w 9 45 5 t Try.underlying9 Try.underlying45 Try.underlying5, ?_, ?_, fun j hj => ⟨?_, ?_⟩⟩
  · refine ⟨rfl, rfl, rfl, by rw [Go.Lib.bytesWorld_size]; omega, fun b hb => Go.Lib.bytesWorld_at_old _ _ _ _ hb⟩
  · rw [Go.Lib.bytesWorld_size]; omega
  · rw [Go.Lib.bytesWorld_cell _ _ _ _ hj]
    have : (bytesOf t).getD j 0 = (t.data.toList.getD j 0).toNat := by
      have hj' : j < t.data.toList.length := by simpa using hj
      simp only [bytesOf, List.getD, List.getElem?_map, List.getElem?_eq_getElem hj', Option.map_some, Option.getD_some]
    rw [this]
  · simp only [World.frozen?, Go.Lib.bytesWorld_at_new]
    have : t.size ≤ (Go.Lib.bytesCells w 5 t).size := by
      unfold Go.Lib.bytesCells
      rw [Array.size_append, Array.size_map]
      exact Nat.le_add_right _ _
    rw [Bool.and_eq_false_iff]
    left
    rw [decide_eq_false_iff_not]
    omega

theorem xor_ne {a b : Nat} (h : 0 < b) : a ^^^ b ≠ a := by
  intro e
  have h1 : a ^^^ (a ^^^ b) = a ^^^ a := by rw [e]
  rw [← Nat.xor_assoc, Nat.xor_self, Nat.zero_xor] at h1
  omega

set_option maxHeartbeats 1000000 in
set_option maxRecDepth 100000 in
theorem changed_any (t : ByteArray) (at_ by_ : Int) (w : World) (ht0 : 1 ≤ t.size) (ht : t.size ≤ 1099511627776) (ha : InRange at_) (hb : InRange by_) :
    Calls Try.prog 18 #[.string t, .int .i64 at_, .int .i64 by_] w fun e w' => ∃ y, y < 256 ∧ y ≠ (bytesOf t).getD (pickN at_ t.size) 0 ∧ e = .returned (.string (txt ((bytesOf t).set (pickN at_ t.size) y))) ∧ Below w.heap.size w w' := by
  obtain ⟨cap, W, hconv, hbw, hwz, hcells⟩ := conv_bytes t w
  have HP1 := hid (fun (w' : World) => pick_any at_ t.size w' ha.1 ha.2 ht0 ht)
  have HP2 := hid (fun (w' : World) => pick_any by_ 255 w' hb.1 hb.2 (by omega) (by omega))
  have hl1 := pickN_lt at_ (n := t.size) (by omega)
  have hl2 := pickN_lt by_ (n := 255) (by omega)
  have hby := bytesOf_lt t
  have hne : t.toList.isEmpty = false := by
    rw [ByteArray.toList_eq]
    cases h : t.data.toList with
    | nil => have h1 := congrArg List.length h; rw [Array.length_toList] at h1; have e : t.size = t.data.size := rfl; rw [h1] at e; rw [e] at ht0; simp at ht0
    | cons _ _ => rfl
  generalize pickN at_ t.size = i at *
  generalize pickN by_ 255 = c at *
  have HBW := hid hbw
  obtain ⟨ci, fi⟩ := hcells i hl1
  have HC := hid hcells
  have HBY := hid hby
  generalize hn : t.size = n at *
  have HN := hid hn
  clear hbw hcells hby hn
  go_enter Try.func18, Try.ntmps18
  go_upto_region 5 with (go_at_call 9; refine (HP1.out _).mono ?_; rintro e w' ⟨rfl, hw⟩; obtain rfl := hw.symm)
  have hs1 : (0 : Int) ≤ (i : Int) := by omega
  have hs2 : (i : Int) < (n : Int) := by omega
  generalize hbi : (bytesOf t).getD i 0 = bi at *
  have hbi2 : bi < 256 := by
    rw [← hbi]
    have hl : i < (bytesOf t).length := by rw [bytesOf_length, HN.out]; exact hl1
    rw [List.getD_eq_getElem?_getD, List.getElem?_eq_getElem hl]
    exact HBY.out _ (List.getElem_mem hl)
  have HBI := hid hbi
  have hw1 : IntKind.i64.wrap (1 + (c : Int)) = ((c + 1 : Nat) : Int) := by simp [IntKind.wrap, IntKind.bits, IntKind.signed]; omega
  have hw2 : IntKind.u8.wrap ((c + 1 : Nat) : Int) = ((c + 1 : Nat) : Int) := by simp [IntKind.wrap, IntKind.bits, IntKind.signed]; omega
  have HX := hid (u8_xor_nat bi (c + 1) hbi2 (by omega))
  have HW1 := hid hw1
  have HW2 := hid hw2
  clear hbi hw1 hw2
  go_cut [] from 18 to 29 (fun wc => ∃ y : Nat, y < 256 ∧ y ≠ bi ∧ (∀ j, j < n → wc.cell? ⟨w.heap.size, j, none⟩ = some (.int .u8 ((((bytesOf t).set i y).getD j 0 : Nat) : Int))) ∧ Below w.heap.size w wc)
  case first =>
    go_region_with (first | (go_at_call 9; refine (HP2.out _).mono ?_; rintro e w' ⟨rfl, hw⟩; obtain rfl := hw.symm))
    all_goals
      go_wp2_with fail
      go_meet
      refine ⟨bi ^^^ (c + 1), Nat.xor_lt_two_pow (n := 8) hbi2 (by omega), xor_ne (by omega), fun j hj => ?_, ?_⟩
      · rw [HW1.out, HW2.out, HX.out]
        show (W.setCell ⟨w.heap.size, i, none⟩ (.int .u8 ((bi ^^^ (c + 1) : Nat) : Int))).cell? ⟨w.heap.size, j, none⟩ = _
        have hl : (bytesOf t).length = n := by rw [bytesOf_length, HN.out]
        by_cases e : j = i
        · subst e
          rw [World.cell?_setCell_same' _ _ _ (by rw [ci]; rfl)]
          simp [List.getD, hl, hj]
        · rw [World.cell?_setCell_other _ _ _ _ (by intro h; cases h; exact e rfl), (HC.out j hj).1]
          simp [List.getD, Ne.symm e]
      · have hbl := HBW.out.setCell (p := ⟨w.heap.size, i, none⟩) (Nat.le_refl _) (.int .u8 (bits BinOp.xor IntKind.u8 (bi : Int) (IntKind.u8.wrap (IntKind.i64.wrap (1 + (c : Int))))))
        exact ⟨hbl.os, hbl.tape, hbl.output, hbl.size, hbl.block⟩
  case rest =>
    obtain ⟨y, hy1, hy2, hyc, hyb⟩ := hcut
    have hl : ((bytesOf t).set i y).length = n := by rw [List.length_set, bytesOf_length, HN.out]
    have hback := run_convert_bytes_back (P := Try.prog) wc 45 9 5 ⟨w.heap.size, 0, none⟩ cap (((bytesOf t).set i y).map UInt8.ofNat) Try.underlying45 Try.underlying5 Try.underlying9 (fun j hj => by
      have hj' : j < n := by rw [List.length_map, hl] at hj; exact hj
      rw [Addr.add_lit, Nat.zero_add, hyc j hj']
      have hjl : j < ((bytesOf t).set i y).length := by omega
      have hx : ((bytesOf t).set i y)[j] < 256 := by
        rcases List.mem_or_eq_of_mem_set (List.getElem_mem hjl) with h | h
        · exact HBY.out _ h
        · rw [h]; exact hy1
      simp only [List.getElem_map, UInt8.toNat_ofNat']
      rw [List.getD_eq_getElem?_getD, List.getElem?_eq_getElem hjl]
      simp only [Option.getD_some]
      rw [Nat.mod_eq_of_lt (by simpa using hx)])
    rw [List.length_map, hl] at hback
    have hback' : (convert 45 9 (.slice (some ⟨w.heap.size, 0, none⟩) n cap)).run Try.prog wc = .ok (.string (txt ((bytesOf t).set i y))) wc := hback
    generalize hTX : txt ((bytesOf t).set i y) = TX at *
    have HTX := hid hTX
    clear hback hTX
    have HYB := hid hyb
    clear hyc hyb ci fi
    go_wp2_with fail
    go_ret
    exact ⟨y, hy1, by rw [HBI.out]; exact hy2, by rw [HTX.out]; rfl, HYB.out⟩

variable {K : Nat → Prop} {w0 : World}
set_option maxHeartbeats 400000 in
theorem refused_any (p d m : Nat) (ps : Nat → Nat) (W : Wd) (t : ByteArray) (w : World) (h : WdSt K w0 w p d m ps W) (ht : t.size ≤ 140737488355328) (hi : isText (bytesOf t) = false) :
    Calls Try.prog 17 #[.pointer (some ⟨p, 0, none⟩), .string t] w fun e w' => e = .returned (.bool true) ∧ Below w.heap.size w w' := by
  obtain ⟨own, vs, vx, vw, h, _⟩ := h
  obtain ⟨c0, _⟩ := blk7 h.blk
  have HD := hid (decode_no d t w ht hi)
  clear h hi
  go_enter Try.func17, Try.ntmps17
  go_wp2_with (go_at_call 11; refine HD.out.mono ?_; rintro e w1 ⟨rfl, hb1⟩; have HB1 := hid hb1; clear hb1)
  go_ret
  exact ⟨rfl, HB1.out⟩

theorem AddR.room {i : Nat} {x : Int} {wt : Nat} {W W' : Wd} (h : AddR i x wt W W') : W'.D.room = W.D.room := by
  rcases h with ⟨_, rfl⟩ | ⟨hf, cs, L', a, ha, hs, hcs, rfl⟩ <;> rfl
theorem MergeR.room {i j : Nat} {W W' : Wd} (h : MergeR i j W W') : W'.D.room = W.D.room := by
  rcases h with ⟨_, rfl⟩ | ⟨hf, cs, L', a, ha, hs, hcs, rfl⟩ <;> rfl
theorem PlayR.room : ∀ {l : List St} {W W' : Wd}, PlayR l W W' → W'.D.room = W.D.room
  | [], _, _, h => by cases h; rfl
  | s :: l, _, _, ⟨V, h1, h2⟩ => by
    rw [h2.room]
    rcases h1 with ⟨_, h⟩ | ⟨_, h⟩
    · exact h.room
    · exact h.room
theorem bytesOf_take (t : ByteArray) (n : Nat) : bytesOf (t.extract 0 n) = (bytesOf t).take n := by
  simp [bytesOf, ByteArray.data_extract, List.map_take]
theorem bytesOf_app (a b : ByteArray) : bytesOf (a ++ b) = bytesOf a ++ bytesOf b := by
  simp [bytesOf, ByteArray.data_append]

end Go.Proofs.Ytklicjbpjigfdab

/- DERIVED. What a step of the desk leaves. -/
namespace Go.Proofs.Ytklicjbpjigfdab
open Go.RowKit

theorem DeskStep.bel {F : Nat → Prop} {w w' : World} {d B : Nat} {D' : Dk} (h : DeskStep F w w' d D') (hB : B ≤ w.heap.size) (hF : ∀ b, F b → B ≤ b) : Below B w w' := by
  obtain ⟨F', _, _, hf⟩ := h
  exact hf.toBelow hB hF

end Go.Proofs.Ytklicjbpjigfdab

/- DERIVED. The walk of Marred. -/
namespace Go.Proofs.Ytklicjbpjigfdab
open Go.RowKit
attribute [local go_sem ↓] Go.wp_at_zero Go.wp_at_succ

set_option maxHeartbeats 2000000 in
set_option maxRecDepth 100000 in
theorem marred_walk (k : Int) (coins : ByteArray) (ao : Option Addr) (n cap : Nat) (ss : List St) (i at_ by_ : Int) (w : World) (hk1 : -9223372036854775808 ≤ k) (hk2 : k ≤ 9223372036854775807) (hcs : coins.size ≤ 140737488355328) (hl : ss.length = n) (hr : n * 32 ≤ 140737488351232) (hrg : ∀ s ∈ ss, InRange s.a ∧ InRange s.b ∧ InRange s.c) (hc : StepsAt w ao n ss) (hi : InRange i) (ha : InRange at_) (hb : InRange by_) :
    Calls Try.prog 4 #[.int .i64 k, .string coins, .slice ao n cap, .int .i64 i, .int .i64 at_, .int .i64 by_] w fun e w' => e = .returned (.bool true) ∧ Below w.heap.size w w' := by
  have HPL := hid (played_any k coins ao n cap ss w hk1 hk2 hcs hl hr hrg hc)
  have HP1 := hid (fun (w' : World) => pick_any i 3 w' hi.1 hi.2 (by omega) (by omega))
  have HP2 := hid (fun (w' : World) => pick_any by_ 256 w' hb.1 hb.2 (by omega) (by omega))
  have hp3 := pickN_lt i (n := 3) (by omega)
  have hp4 := pickN_lt by_ (n := 256) (by omega)
  have HRB : Hid (∀ s ∈ ss, InRange s.b) := fun s hs => (hrg s hs).2.1
  have HCH := hid (fun (t : ByteArray) (w' : World) (h1 : 1 ≤ t.size) (h2 : t.size ≤ 1099511627776) => changed_any t at_ by_ w' h1 h2 ha hb)
  generalize pickN i 3 = j at *
  generalize pickN by_ 256 = pb at *
  clear hl hrg hc hi ha hb
  go_enter Try.func4, Try.ntmps4
  go_wp2_with fail
  refine HPL.out.mono ?_
  rintro e w1 ⟨p, d, ps, W, rfl, hst, hm, hpl⟩
  have htv : TInv W := hpl.kp (first_minv k coins hcs) (first_tinv k coins) HRB.out
  have hroom : W.D.room = 4 := hpl.room.trans (first_len k coins 3).2
  have hlen := hm.len
  have hkp := htv j hp3
  have hcm := hm.came j hp3
  have hsb := sound_of hcm (hm.roomy j hp3) hkp
  have hft := fits_of hcm hkp
  have hjl : j < W.D.sks.length := by rw [hlen]; exact hp3
  obtain ⟨own, vs, vx, vw, hw, hK2, hKe⟩ := hst
  have HEN := hid (fun (w' : World) (hb : Below w1.heap.size w1 w') => encode_any d W.D j w' (hw.desk.below hb) hjl hcm.inok.ok)
  have HWR := hid (fun (t : ByteArray) (w' : World) (hb : Below w1.heap.size w1 w') (ht : t.size ≤ 140737488355328) (hi : isText (bytesOf t) = false) => refused_any p d 3 ps W t w' (WdSt.below ⟨own, vs, vx, vw, hw, hK2, hKe⟩ hb) ht hi)
  have h11 := writeB_eleven (W.D.sks.getD j Hd.none).sk hcm.inok.ok.len1
  have hlt := writeB_lt (W.D.sks.getD j Hd.none).sk
  have HNC := hid (fun (a y : Nat) h1 h2 h3 => not_changed (s := (W.D.sks.getD j Hd.none).sk) (i := a) (y := y) h1 h2 h3)
  have HNT := hid (not_cut hft)
  have HNM := hid (fun (y : Nat) (hy : y < 256) => not_more hft hy)
  have HIS := hid (is_text hft hsb)
  have hsz : (writeB (W.D.sks.getD j Hd.none).sk).length ≤ 1099511627776 := by
    have h1 := nsum_le (W.D.sks.getD j Hd.none).sk.lv
    have h2 := hcm.inok.ok.cnt
    have h3 := hcm.inok.ok.len
    rw [writeB_length, bodyB_length]
    split <;> omega
  have HDE := hid (fun (t : ByteArray) (w' : World) (hb : Below w1.heap.size w1 w') (ht : t.size ≤ 140737488355328) (hi : isText (bytesOf t) = true) => decode_ok d W.D t w' (hw.desk.below hb) ht hi (by rw [hlen, hroom]; omega) (by rw [hroom]; omega))
  have HOW : Hid (∀ b, own b = 1 → w.heap.size ≤ b) := fun b e => Decidable.byContradiction fun hn => by have := (hK2 b (by omega)).1; omega
  have HKE := hid hKe
  have hblk := hw.blk
  obtain ⟨c0, _⟩ := blk7 hblk
  have HBK := hid hblk
  rw [hlen] at HDE
  generalize hWB : writeB (W.D.sks.getD j Hd.none).sk = wb at *
  have hbt := bytesOf_txt hlt
  have htz : (txt wb).size = wb.length := by rw [← bytesOf_length, hbt]
  generalize txt wb = T at *
  clear hw hm hpl htv hroom hlen hkp hcm hsb hft hK2 hKe hWB
  subst hbt
  rw [bytesOf_length] at h11 hsz
  have HTZ := hid htz
  have HLT := hid hlt
  clear htz hlt
  go_upto_region 4 with fail
  go_cut [14, 15] from 27 to 36 (fun s14 s15 wc => s14 = .string T ∧ s15 = .int .i64 0 ∧ Below w1.heap.size w1 wc)
  case first =>
    go_region_with (first | (go_at_call 9; refine (HP1.out _).mono ?_; rintro e w' ⟨rfl, hw⟩; obtain rfl := hw.symm) | (go_at_call 10; refine (HEN.out w1.drew ⟨rfl, rfl, rfl, Nat.le_refl _, fun _ _ => rfl⟩).mono ?_; rintro e w2 ⟨rfl, hb2⟩; have HB2 := hid (undrew hb2); clear hb2))
    all_goals
      go_wp2_with fail
      go_meet
      exact ⟨rfl, rfl, HB2.out⟩
  case rest =>
    obtain ⟨rfl, rfl, hb2⟩ := hcut
    have HB2 := hid hb2
    have c0' := (hb2.cell (p := ⟨p, 0, none⟩) (lt_of_blk' HBK.out)).trans c0
    have hd1 : decide ((T.size : Int) < 11) = false := by simp; omega
    clear hb2 c0
    go_wp2_with fail
    refine (HCH.out T _ (by omega) (by omega)).mono ?_
    rintro e w3 ⟨y, hy1, hy2, rfl, hb3⟩
    have HB3 := hid (HB2.out.trans (hb3.mono HB2.out.size))
    have hpl := pickN_lt at_ (n := T.size) (by omega)
    have hset : ∀ x ∈ (bytesOf T).set (pickN at_ T.size) y, x < 256 := fun x hx => by
      rcases List.mem_or_eq_of_mem_set hx with h | h
      · exact HLT.out x h
      · rw [h]; exact hy1
    have HR1 := hid (HWR.out (txt ((bytesOf T).set (pickN at_ T.size) y)) w3 HB3.out (by rw [← bytesOf_length, bytesOf_txt hset, List.length_set, bytesOf_length]; omega) (by rw [bytesOf_txt hset]; exact HNC.out _ _ (by rw [bytesOf_length]; exact hpl) hy1 hy2))
    generalize txt ((bytesOf T).set (pickN at_ T.size) y) = T1 at *
    clear hb3 hset hpl hy1 hy2 c0'
    go_wp2_with fail
    refine HR1.out.mono ?_
    rintro e w4 ⟨rfl, hb4⟩
    have HB4 := hid (HB3.out.trans (hb4.mono HB3.out.size))
    clear hb4 HR1
    go_wp2_with fail
    refine (HWR.out (T.extract 0 (T.size - 1)) w4 HB4.out (by rw [← bytesOf_length, bytesOf_take, List.length_take, bytesOf_length]; omega) (by rw [bytesOf_take]; have := HNT.out; rwa [bytesOf_length] at this)).mono ?_
    rintro e w5 ⟨rfl, hb5⟩
    have HB5 := hid (HB4.out.trans (hb5.mono HB4.out.size))
    clear hb5
    have hw8 : IntKind.u8.wrap (pb : Int) = (pb : Int) := by simp [IntKind.wrap, IntKind.bits, IntKind.signed]; omega
    have hback := run_convert_bytes_back (P := Try.prog) (w5.alloc (.cells #[.int .u8 (pb : Int)] 5)) 45 9 5 ⟨w5.heap.size, 0, none⟩ 1 [UInt8.ofNat pb] Try.underlying45 Try.underlying5 Try.underlying9 (fun j hj => by
      have hj0 : j = 0 := by simp at hj; omega
      subst hj0
      rw [Addr.add_lit]
      simp [UInt8.toNat_ofNat']
      omega)
    simp only [List.length_singleton] at hback
    have hb6 : Below w1.heap.size w1 (w5.alloc (.cells #[.int .u8 (pb : Int)] 5)) := HB5.out.alloc HB5.out.size _
    have e8 : bytesOf ⟨#[UInt8.ofNat pb]⟩ = [pb] := by simp [bytesOf, UInt8.toNat_ofNat']; omega
    have HR2 := hid (HWR.out (T ++ ⟨#[UInt8.ofNat pb]⟩) _ hb6 (by rw [← bytesOf_length, bytesOf_app, e8, List.length_append, bytesOf_length, List.length_singleton]; omega) (by rw [bytesOf_app, e8]; exact HNM.out pb hp4))
    clear e8
    have HB6 := hid hb6
    clear hb6
    go_wp2_with (go_at_call 9; refine (HP2.out _).mono ?_; rintro e w' ⟨rfl, hw⟩; obtain rfl := hw.symm)
    refine HR2.out.mono ?_
    rintro e w7 ⟨rfl, hb7⟩
    have HB7 := hid (HB6.out.trans (hb7.mono HB6.out.size))
    have c7 := (HB7.out.cell (p := ⟨p, 0, none⟩) (lt_of_blk' HBK.out)).trans (blk7 HBK.out).1
    have HDD := hid (HDE.out T w7 HB7.out (by omega) HIS.out)
    clear hb7 HR2 hback
    go_wp2_with fail
    refine HDD.out.mono ?_
    rintro e w8 ⟨rfl, hst8⟩
    have HB8 : Hid (Below w.heap.size w7 w8) := hst8.bel (Nat.le_trans HKE.out.size HB7.out.size) HOW.out
    clear hst8 HDD c7
    go_wp2_with fail
    go_ret
    refine ⟨rfl, ?_⟩
    have hke : Below w.heap.size w w1 := ⟨HKE.out.os, HKE.out.tape, HKE.out.output, HKE.out.size, fun b hb => HKE.out.block b hb⟩
    exact (hke.trans (HB7.out.mono HKE.out.size)).trans HB8.out

end Go.Proofs.Ytklicjbpjigfdab
