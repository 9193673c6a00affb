/- DERIVED. The walks of the statement's own changed and refused. -/
import Derived.Test.YtklicjbpjigfdabDecodeW
import Derived.Test.YtklicjbpjigfdabNa
import Derived.Test.YtklicjbpjigfdabMq
import Derived.Lib.ConvBytes
import Derived.Laws.BitsAllLaws
import Derived.Deep.Cut
import Derived.Deep.CutRange
import Derived.Deep.RegionWith
namespace Go.Proofs.Ytklicjbpjigfdab
open Go.RowKit
attribute [local go_sem ↓] Go.wp_at_zero Go.wp_at_succ

/-- A row of bytes out of a text. -/
theorem conv_bytes (t : ByteArray) (w : World) : ∃ cap W, (convert 9 45 (.string t)).run Try.prog w = .ok (.slice (some ⟨w.heap.size, 0, none⟩) t.size cap) W ∧ Below w.heap.size w W ∧ w.heap.size < W.heap.size ∧ (∀ j, j < t.size → W.cell? ⟨w.heap.size, j, none⟩ = some (.int .u8 (((bytesOf t).getD j 0 : Nat) : Int)) ∧ W.frozen? ⟨w.heap.size, j, none⟩ = false) := by
  refine ⟨_, _, Go.Lib.run_convert_string_bytes (P := Try.prog) w 9 45 5 t Try.underlying9 Try.underlying45 Try.underlying5, ?_, ?_, fun j hj => ⟨?_, ?_⟩⟩
  · refine ⟨rfl, rfl, rfl, by rw [Go.Lib.bytesWorld_size]; omega, fun b hb => Go.Lib.bytesWorld_at_old _ _ _ _ hb⟩
  · rw [Go.Lib.bytesWorld_size]; omega
  · rw [Go.Lib.bytesWorld_cell _ _ _ _ hj]
    have : (bytesOf t).getD j 0 = (t.data.toList.getD j 0).toNat := by
      have hj' : j < t.data.toList.length := by simpa using hj
      simp only [bytesOf, List.getD, List.getElem?_map, List.getElem?_eq_getElem hj', Option.map_some, Option.getD_some]
    rw [this]
  · simp only [World.frozen?, Go.Lib.bytesWorld_at_new]
    have : t.size ≤ (Go.Lib.bytesCells w 5 t).size := by
      unfold Go.Lib.bytesCells
      rw [Array.size_append, Array.size_map]
      exact Nat.le_add_right _ _
    rw [Bool.and_eq_false_iff]
    left
    rw [decide_eq_false_iff_not]
    omega

theorem xor_ne {a b : Nat} (h : 0 < b) : a ^^^ b ≠ a := by
  intro e
  have h1 : a ^^^ (a ^^^ b) = a ^^^ a := by rw [e]
  rw [← Nat.xor_assoc, Nat.xor_self, Nat.zero_xor] at h1
  omega

set_option maxHeartbeats 1000000 in
set_option maxRecDepth 100000 in
theorem changed_any (t : ByteArray) (at_ by_ : Int) (w : World) (ht0 : 1 ≤ t.size) (ht : t.size ≤ 1099511627776) (ha : InRange at_) (hb : InRange by_) :
    Calls Try.prog 18 #[.string t, .int .i64 at_, .int .i64 by_] w fun e w' => ∃ y, y < 256 ∧ y ≠ (bytesOf t).getD (pickN at_ t.size) 0 ∧ e = .returned (.string (txt ((bytesOf t).set (pickN at_ t.size) y))) ∧ Below w.heap.size w w' := by
  obtain ⟨cap, W, hconv, hbw, hwz, hcells⟩ := conv_bytes t w
  have HP1 := hid (fun (w' : World) => pick_any at_ t.size w' ha.1 ha.2 ht0 ht)
  have HP2 := hid (fun (w' : World) => pick_any by_ 255 w' hb.1 hb.2 (by omega) (by omega))
  have hl1 := pickN_lt at_ (n := t.size) (by omega)
  have hl2 := pickN_lt by_ (n := 255) (by omega)
  have hby := bytesOf_lt t
  have hne : t.toList.isEmpty = false := by
    rw [ByteArray.toList_eq]
    cases h : t.data.toList with
    | nil => have h1 := congrArg List.length h; rw [Array.length_toList] at h1; have e : t.size = t.data.size := rfl; rw [h1] at e; rw [e] at ht0; simp at ht0
    | cons _ _ => rfl
  generalize pickN at_ t.size = i at *
  generalize pickN by_ 255 = c at *
  have HBW := hid hbw
  obtain ⟨ci, fi⟩ := hcells i hl1
  have HC := hid hcells
  have HBY := hid hby
  generalize hn : t.size = n at *
  have HN := hid hn
  clear hbw hcells hby hn
  go_enter Try.func18, Try.ntmps18
  go_upto_region 5 with (go_at_call 9; refine (HP1.out _).mono ?_; rintro e w' ⟨rfl, hw⟩; obtain rfl := hw.symm)
  have hs1 : (0 : Int) ≤ (i : Int) := by omega
  have hs2 : (i : Int) < (n : Int) := by omega
  generalize hbi : (bytesOf t).getD i 0 = bi at *
  have hbi2 : bi < 256 := by
    rw [← hbi]
    have hl : i < (bytesOf t).length := by rw [bytesOf_length, HN.out]; exact hl1
    rw [List.getD_eq_getElem?_getD, List.getElem?_eq_getElem hl]
    exact HBY.out _ (List.getElem_mem hl)
  have HBI := hid hbi
  have hw1 : IntKind.i64.wrap (1 + (c : Int)) = ((c + 1 : Nat) : Int) := by simp [IntKind.wrap, IntKind.bits, IntKind.signed]; omega
  have hw2 : IntKind.u8.wrap ((c + 1 : Nat) : Int) = ((c + 1 : Nat) : Int) := by simp [IntKind.wrap, IntKind.bits, IntKind.signed]; omega
  have HX := hid (u8_xor_nat bi (c + 1) hbi2 (by omega))
  have HW1 := hid hw1
  have HW2 := hid hw2
  clear hbi hw1 hw2
  go_cut [] from 18 to 29 (fun wc => ∃ y : Nat, y < 256 ∧ y ≠ bi ∧ (∀ j, j < n → wc.cell? ⟨w.heap.size, j, none⟩ = some (.int .u8 ((((bytesOf t).set i y).getD j 0 : Nat) : Int))) ∧ Below w.heap.size w wc)
  case first =>
    go_region_with (first | (go_at_call 9; refine (HP2.out _).mono ?_; rintro e w' ⟨rfl, hw⟩; obtain rfl := hw.symm))
    all_goals
      go_wp2_with fail
      go_meet
      refine ⟨bi ^^^ (c + 1), Nat.xor_lt_two_pow (n := 8) hbi2 (by omega), xor_ne (by omega), fun j hj => ?_, ?_⟩
      · rw [HW1.out, HW2.out, HX.out]
        show (W.setCell ⟨w.heap.size, i, none⟩ (.int .u8 ((bi ^^^ (c + 1) : Nat) : Int))).cell? ⟨w.heap.size, j, none⟩ = _
        have hl : (bytesOf t).length = n := by rw [bytesOf_length, HN.out]
        by_cases e : j = i
        · subst e
          rw [World.cell?_setCell_same' _ _ _ (by rw [ci]; rfl)]
          simp [List.getD, hl, hj]
        · rw [World.cell?_setCell_other _ _ _ _ (by intro h; cases h; exact e rfl), (HC.out j hj).1]
          simp [List.getD, Ne.symm e]
      · have hbl := HBW.out.setCell (p := ⟨w.heap.size, i, none⟩) (Nat.le_refl _) (.int .u8 (bits BinOp.xor IntKind.u8 (bi : Int) (IntKind.u8.wrap (IntKind.i64.wrap (1 + (c : Int))))))
        exact ⟨hbl.os, hbl.tape, hbl.output, hbl.size, hbl.block⟩
  case rest =>
    obtain ⟨y, hy1, hy2, hyc, hyb⟩ := hcut
    have hl : ((bytesOf t).set i y).length = n := by rw [List.length_set, bytesOf_length, HN.out]
    have hback := run_convert_bytes_back (P := Try.prog) wc 45 9 5 ⟨w.heap.size, 0, none⟩ cap (((bytesOf t).set i y).map UInt8.ofNat) Try.underlying45 Try.underlying5 Try.underlying9 (fun j hj => by
      have hj' : j < n := by rw [List.length_map, hl] at hj; exact hj
      rw [Addr.add_lit, Nat.zero_add, hyc j hj']
      have hjl : j < ((bytesOf t).set i y).length := by omega
      have hx : ((bytesOf t).set i y)[j] < 256 := by
        rcases List.mem_or_eq_of_mem_set (List.getElem_mem hjl) with h | h
        · exact HBY.out _ h
        · rw [h]; exact hy1
      simp only [List.getElem_map, UInt8.toNat_ofNat']
      rw [List.getD_eq_getElem?_getD, List.getElem?_eq_getElem hjl]
      simp only [Option.getD_some]
      rw [Nat.mod_eq_of_lt (by simpa using hx)])
    rw [List.length_map, hl] at hback
    have hback' : (convert 45 9 (.slice (some ⟨w.heap.size, 0, none⟩) n cap)).run Try.prog wc = .ok (.string (txt ((bytesOf t).set i y))) wc := hback
    generalize hTX : txt ((bytesOf t).set i y) = TX at *
    have HTX := hid hTX
    clear hback hTX
    have HYB := hid hyb
    clear hyc hyb ci fi
    go_wp2_with fail
    go_ret
    exact ⟨y, hy1, by rw [HBI.out]; exact hy2, by rw [HTX.out]; rfl, HYB.out⟩

variable {K : Nat → Prop} {w0 : World}
set_option maxHeartbeats 400000 in
theorem refused_any (p d m : Nat) (ps : Nat → Nat) (W : Wd) (t : ByteArray) (w : World) (h : WdSt K w0 w p d m ps W) (ht : t.size ≤ 140737488355328) (hi : isText (bytesOf t) = false) :
    Calls Try.prog 17 #[.pointer (some ⟨p, 0, none⟩), .string t] w fun e w' => e = .returned (.bool true) ∧ Below w.heap.size w w' := by
  obtain ⟨own, vs, vx, vw, h, _⟩ := h
  obtain ⟨c0, _⟩ := blk7 h.blk
  have HD := hid (decode_no d t w ht hi)
  clear h hi
  go_enter Try.func17, Try.ntmps17
  go_wp2_with (go_at_call 11; refine HD.out.mono ?_; rintro e w1 ⟨rfl, hb1⟩; have HB1 := hid hb1; clear hb1)
  go_ret
  exact ⟨rfl, HB1.out⟩

theorem AddR.room {i : Nat} {x : Int} {wt : Nat} {W W' : Wd} (h : AddR i x wt W W') : W'.D.room = W.D.room := by
  rcases h with ⟨_, rfl⟩ | ⟨hf, cs, L', a, ha, hs, hcs, rfl⟩ <;> rfl
theorem MergeR.room {i j : Nat} {W W' : Wd} (h : MergeR i j W W') : W'.D.room = W.D.room := by
  rcases h with ⟨_, rfl⟩ | ⟨hf, cs, L', a, ha, hs, hcs, rfl⟩ <;> rfl
theorem PlayR.room : ∀ {l : List St} {W W' : Wd}, PlayR l W W' → W'.D.room = W.D.room
  | [], _, _, h => by cases h; rfl
  | s :: l, _, _, ⟨V, h1, h2⟩ => by
    rw [h2.room]
    rcases h1 with ⟨_, h⟩ | ⟨_, h⟩
    · exact h.room
    · exact h.room
theorem bytesOf_take (t : ByteArray) (n : Nat) : bytesOf (t.extract 0 n) = (bytesOf t).take n := by
  simp [bytesOf, ByteArray.data_extract, List.map_take]
theorem bytesOf_app (a b : ByteArray) : bytesOf (a ++ b) = bytesOf a ++ bytesOf b := by
  simp [bytesOf, ByteArray.data_append]

end Go.Proofs.Ytklicjbpjigfdab
