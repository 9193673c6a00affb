/- DERIVED. The walk of the statement's own sound: what a text of a sketch's began is sound. -/
import Derived.Test.YtklicjbpjigfdabDecodeW
import Derived.Test.YtklicjbpjigfdabMy
import Derived.Test.YtklicjbpjigfdabMz
import Derived.Test.YtklicjbpjigfdabNa
import Derived.Deep.Cut
import Derived.Deep.CutRange
namespace Go.Proofs.Ytklicjbpjigfdab
open Go.RowKit
variable {F : Nat → Prop}
attribute [local go_sem ↓] Go.wp_at_zero Go.wp_at_succ

/-- What is known of a sound sketch's items. -/
theorem sound_items {s : Sk} (h : soundB s = true) {j i : Nat} (hj : j < s.lv.length) (hi : i < (s.lv.getD j Lvl.none).items.length) :
    eLo s ≤ (s.lv.getD j Lvl.none).items.getD i 0 ∧ (s.lv.getD j Lvl.none).items.getD i 0 ≤ eHi s ∧ (0 < i → (s.lv.getD j Lvl.none).items.getD (i - 1) 0 ≤ (s.lv.getD j Lvl.none).items.getD i 0) := by
  have hw : wsum s.lv ≠ 0 := by
    intro e
    have h1 := nsum_le s.lv
    have h2 := nsum_at hj
    omega
  have hl : lvB s.lo s.hi (s.lv.getD j Lvl.none) = true := by
    simp only [soundB, Bool.and_eq_true] at h
    refine List.all_eq_true.1 h.2.2.1 _ ?_
    rw [List.getD_eq_getElem?_getD, List.getElem?_eq_getElem hj]
    exact List.getElem_mem hj
  unfold lvB at hl
  rw [Bool.and_eq_true, risesB_iff, List.all_eq_true] at hl
  unfold eLo eHi
  rw [if_neg hw, if_neg hw]
  have hm : (s.lv.getD j Lvl.none).items.getD i 0 ∈ (s.lv.getD j Lvl.none).items := by
    generalize (s.lv.getD j Lvl.none).items = its at *
    rw [List.getD_eq_getElem?_getD, List.getElem?_eq_getElem hi]
    exact List.getElem_mem hi
  have h1 := hl.1 _ hm
  simp only [Bool.and_eq_true, decide_eq_true_eq] at h1
  refine ⟨h1.1, h1.2, fun h0 => ?_⟩
  have := hl.2 (i - 1) (by omega)
  rwa [show i - 1 + 1 = i by omega] at this

theorem shape_ok {s : Sk} {b : Bool} (h : soundB s = true) (ht : ∀ j, (s.lv.getD j Lvl.none).times ≤ 549755813888) : Hd.Ok ⟨s, b, []⟩ := by
  simp only [soundB, Bool.and_eq_true] at h
  obtain ⟨h1, h2, h3, h4, h5, h6, h7⟩ := (shapeB_iff s).1 h.1
  exact ⟨h1, h2, h3, h4, h7, ht⟩

set_option maxHeartbeats 2000000 in
set_option maxRecDepth 100000 in
theorem ksound_any (d : Nat) (D : Dk) (w : World) (h : DeskAt F w d D) (h0 : 0 < D.sks.length) (hok : (D.sks.getD 0 Hd.none).Ok) (hs : soundB (D.sks.getD 0 Hd.none).sk = true) :
    Calls Try.prog 21 #[.pointer (some ⟨d, 0, none⟩)] w fun e w' => e = .returned (.bool true) ∧ Below w.heap.size w w' := by
  have HSZ := hid (deskSize d D 0 w h h0 hok)
  have HEN := hid (fun (w' : World) (hb : Below w.heap.size w w') => deskEnds d D 0 w' (h.below hb) h0 hok)
  have HLE := hid (fun (j : Nat) (w' : World) (hb : Below w.heap.size w w') (hj : j < (D.sks.getD 0 Hd.none).sk.lv.length) => deskLevel d D 0 j w' (h.below hb) h0 hj hok)
  rw [ends_form] at HEN
  have HI := hid (fun (j i : Nat) (hj : j < (D.sks.getD 0 Hd.none).sk.lv.length) hi => sound_items hs (i := i) hj hi)
  have hz := eEr_zero (D.sks.getD 0 Hd.none).sk
  have hsh : nsum (D.sks.getD 0 Hd.none).sk.lv ≤ capSum (D.sks.getD 0 Hd.none).sk.k (D.sks.getD 0 Hd.none).sk.lv.length := by
    simp only [soundB, Bool.and_eq_true] at hs
    exact ((shapeB_iff _).1 hs.1).2.2.2.2.2.1
  have hk1 := hok.k1
  have hk2 := hok.k2
  have hl1 := hok.len1
  have hl2 := hok.len
  have hct := hok.cnt
  generalize (D.sks.getD 0 Hd.none).sk = s at *
  generalize eLo s = lo at *
  generalize eHi s = hi at *
  generalize eEr s = er at *
  obtain ⟨k, L, lo', hi'⟩ := s
  simp only at *
  have hns := nsum_le L
  have hcs := capSum_bd k L.length hk2
  generalize hn : L.length = n at *
  have HN := hid hn
  clear h hok hs hn
  go_enter Try.func21, Try.ntmps21
  go_wp2_with fail
  refine HSZ.out.mono ?_
  rintro e w1 ⟨rfl, hb1⟩
  have HB1 := hid hb1
  have HZB := hid (heap_alloc_new w1 (.cells #[.int .i64 (k : Int), .int .i64 (wsum L : Int), .int .i64 (nsum L : Int), .int .i64 (n : Int)] 99))
  have hba : Below w.heap.size w (w1.alloc (.cells #[.int .i64 (k : Int), .int .i64 (wsum L : Int), .int .i64 (nsum L : Int), .int .i64 (n : Int)] 99)) := hb1.alloc hb1.size _
  have HBA := hid hba
  clear hb1 HSZ hba
  obtain ⟨q0, q1, q2, q3, qz⟩ := blk4 HZB.out
  have hg1 : decide ((k : Int) < 2) = false := by simp; omega
  have hg2 : decide (64 < (k : Int)) = false := by simp; omega
  have hg3 : decide ((n : Int) < 1) = false := by simp; omega
  have hg4 : decide (29 < (n : Int)) = false := by simp; omega
  have hg5 : decide (268435456 < (wsum L : Int)) = false := by simp; omega
  have hzc : ((wsum L : Int) == 0) = decide (wsum L = 0) := by
    by_cases e : wsum L = 0
    · simp [e]
    · simp [e]
  obtain ⟨hz8, hz0⟩ := hz
  have HZD : Hid ((decide (wsum L = 0) : Bool) = (decide (wsum L = 0) : Bool)) := rfl
  generalize hzb : decide (wsum L = 0) = zb at *
  clear hzb HZD
  go_upto_region 4 with fail
  go_wp2_with fail
  refine (HEN.out _ HBA.out).mono ?_
  rintro e w2 ⟨rfl, hb2⟩
  have HB2 := hid (HBA.out.trans (hb2.mono HBA.out.size))
  have HZ2 := hid ((hb2.block w1.heap.size (by simp)).trans HZB.out)
  clear hb2 HEN q0 q1 q2 q3 qz HZB HBA
  obtain ⟨q0, q1, q2, q3, qz⟩ := blk4 HZ2.out
  generalize hB : w1.heap.size = B at *
  have hBz := lt_of_blk' HZ2.out
  clear hB HB1
  go_upto_region 5 with fail
  go_cut [68] from 55 to 68 (fun sb we => sb = .bool false ∧ we = w2)
  case first =>
    cases zb with
    | false =>
      simp only [Bool.not_false] at hz0
      have hz0' : (er != 0) = false := by simp [bne, hz0]
      go_wp2_with fail
      go_meet
      exact ⟨rfl, rfl⟩
    | true =>
      simp only [Bool.not_true] at hz0
      have hz0' : (er != 0) = true := by simp [bne, hz0]
      have hz8' : (er != 8) = false := by simp [bne, hz8]
      go_wp2_with fail
      go_meet
      exact ⟨rfl, rfl⟩
  case rest =>
  obtain ⟨rfl, hwe⟩ := hcut
  obtain rfl := hwe.symm
  have HP := hid (fun (wr : World) (hb : Below w2.heap.size w2 wr) => (hb.block B hBz).trans HZ2.out)
  go_wp2_with fail
  go_loopw [8, 9, 10, 11] (fun s8 s9 s10 s11 wr => ∃ j c1 c2 c3 : Nat, j ≤ n ∧ s8 = .int .i64 (c1 : Int) ∧ s9 = .int .i64 (c2 : Int) ∧ s10 = .int .i64 (c3 : Int) ∧ s11 = .int .i64 (j : Int) ∧ Hid (c1 + nsum (L.drop j) = nsum L) ∧ Hid (c2 + capSum k (n - j) = capSum k n) ∧ Hid (c3 + 2 ^ j * wsum (L.drop j) = wsum L) ∧ Hid (Below w2.heap.size w2 wr)) (fun _ _ _ s11 _ => n - (intOf s11).toNat)
  case atStart => exact ⟨0, 0, 0, 0, Nat.zero_le _, rfl, rfl, rfl, rfl, by simp [Hid], by simp [Hid], by simp [Hid], Below.refl _ _⟩
  case round =>
    obtain ⟨j, c1, c2, c3, hj, rfl, rfl, rfl, rfl, Hc1, Hc2, Hc3, HBr⟩ := hrel
    clear q0 q1 q2 q3 qz
    obtain ⟨q0, q1, q2, q3, qz⟩ := blk4 (HP.out _ HBr.out)
    by_cases hlt : j < n
    · have hlt' : j < L.length := by rw [HN.out]; exact hlt
      have HLj := hid (HLE.out j wr (HB2.out.trans (HBr.out.mono HB2.out.size)) hlt)
      have HIj := hid (fun i hi => HI.out j i hlt hi)
      have HS1 := hid (nsum_drop L j hlt')
      have HS3 := hid (wstep hlt' Hc3.out)
      obtain ⟨dd, hd⟩ : ∃ dd, n = j + 1 + dd := ⟨n - (j + 1), by omega⟩
      have HS2 : Hid (c2 + (capSum k dd + capOf k dd) = capSum k n) := by
        have := Hc2.out
        rw [show n - j = dd + 1 by omega, capSum] at this
        exact this
      have HHO := hid (fun w' => holds_any k dd w' hk1 hk2 (by omega))
      have HPO := hid (fun w' => power_any j w' (by omega))
      have hdd : (n : Int) - 1 - (j : Int) = (dd : Int) := by omega
      have HP2 : Hid (2 ^ (j + 1) = 2 ^ j * 2) := Nat.pow_succ ..
      have hb1 := Hc1.out
      rw [HS1.out] at hb1
      have hb2 := HS2.out
      have hb3 := HS3.out
      have hpb := pow2_bd (j := j) (by omega)
      generalize (L.getD j Lvl.none).items = its at *
      generalize hm : its.length = m at *
      have HM := hid hm
      generalize 2 ^ j = p at *
      generalize capOf k dd = ch at *
      have hpm : ((p * m : Nat) : Int) = (p : Int) * (m : Int) := Int.natCast_mul ..
      have hnn := mul_nn p m
      have hpm2 : (c3 : Int) + (p : Int) * (m : Int) ≤ 268435456 := by rw [← hpm]; generalize p * m = pm at *; omega
      have HC2 : Hid (c2 + ch ≤ 1920) := by unfold Hid; omega
      have HC1 : Hid (c1 + m ≤ 268435456) := by unfold Hid; omega
      have hC2 := HC2.out
      have hC1 := HC1.out
      have HDD := hid hd
      clear hd hm hb1 hb2 hb3 Hc2 Hc3 hcs
      go_upto_region 14 with (first | (go_at_call 43; refine HLj.out.mono ?_; rintro e w3 ⟨rfl, hi3, hb3⟩; have HI3 := hid hi3; have HB3 := hid hb3; have q0' := (World.cell?_of_block (a := ⟨B, 0, none⟩) (hb3.block B (lt_of_blk' (HP.out _ HBr.out)))).trans q0; have q3' := (World.cell?_of_block (a := ⟨B, 3, none⟩) (hb3.block B (lt_of_blk' (HP.out _ HBr.out)))).trans q3; clear hi3 hb3) | (go_at_call 52; refine (HHO.out _).mono ?_; rintro e w4 ⟨rfl, hw4⟩; obtain rfl := hw4.symm) | (go_at_call 45; refine (HPO.out _).mono ?_; rintro e w5 ⟨rfl, hw5⟩; obtain rfl := hw5.symm))
      generalize hG : wr.heap.size = G at *
      have HG := hid hG
      clear hG
      go_wp2_with fail
      go_loopw [16] (fun si wz => ∃ i : Nat, i ≤ m ∧ si = .int .i64 i ∧ Hid (Below w3.heap.size w3 wz)) (fun si _ => m - (intOf si).toNat)
      case atStart => exact ⟨0, Nat.zero_le _, rfl, Below.refl _ _⟩
      case round =>
        obtain ⟨i, hi1, rfl, HBz⟩ := hrel
        by_cases hil : i < m
        · obtain ⟨ao, cap, e1, _, _, _, hso⟩ := HI3.out.form
          simp only [Value.slice.injEq] at e1
          obtain ⟨rfl, _, _⟩ := e1
          obtain ⟨gi, e2, hgi, hcc⟩ := hso _ rfl
          simp only [Addr.mk.injEq, and_true] at e2
          subst e2
          have hcell : wr.cell? ⟨G, i, none⟩ = some (.int .i64 (its.getD i 0)) := (HBz.out.cell hgi).trans (hcc i (by rw [HM.out]; exact hil))
          have hgz : G < wr.heap.size := Nat.lt_of_lt_of_le hgi HBz.out.size
          obtain ⟨hx1, hx2, hx3⟩ := HIj.out i hil
          cases i with
          | zero =>
            clear hx3 hcc
            generalize its.getD 0 0 = x at *
            have hd1 : decide (x < lo) = false := by simp; omega
            have hd2 : decide (hi < x) = false := by simp; omega
            have hd3 : decide ((0 : Int) < ((0 : Nat) : Int)) = false := by simp
            go_wp2_with fail
            go_quiet (fail)
            go_wp2_with fail
            go_roundw
            case rel => exact ⟨1, by omega, by go_num, below_drewN HBz.out _⟩
            case measure => simp [intOf]; omega
          | succ s =>
            have hcell2 : wr.cell? ⟨G, s, none⟩ = some (.int .i64 (its.getD s 0)) := (HBz.out.cell hgi).trans (hcc s (by rw [HM.out]; omega))
            have hx4 := hx3 (by omega)
            simp only [Nat.add_sub_cancel] at hx4
            have es : ((s : Int) + 1 - 1) = (s : Int) := by omega
            clear hx3 hcc
            generalize its.getD (s + 1) 0 = x at *
            generalize its.getD s 0 = y at *
            have hd1 : decide (x < lo) = false := by simp; omega
            have hd2 : decide (hi < x) = false := by simp; omega
            have hd3 : decide ((0 : Int) < ((s : Int) + 1)) = true := by rw [decide_eq_true_eq]; omega
            have hd4 : decide (x < y) = false := by simp; omega
            go_wp2_with fail
            go_quiet (fail)
            go_wp2_with fail
            go_roundw
            case rel => exact ⟨s + 2, by omega, by go_num, below_drewN HBz.out _⟩
            case measure => simp [intOf]; omega
        · go_wp2_with fail
          go_roundw
          case rel =>
            refine ⟨j + 1, c1 + m, c2 + ch, c3 + p * m, by omega, by go_num, by go_num, ?_, by go_num, ?_, ?_, ?_, ?_⟩
            · rw [Int.natCast_add, hpm]
            · have h1 := HS1.out; have h2 := Hc1.out; unfold Hid; omega
            · have h1 := HS2.out; rw [show n - (j + 1) = dd by have := HDD.out; omega]; unfold Hid; omega
            · rw [HP2.out]; exact HS3
            · exact HBr.out.trans ((HB3.out.trans (HBz.out.mono (by have := HB3.out.size; have := HG.out; omega))).mono (by have := HG.out; have := HBr.out.size; omega))
          case measure => simp [intOf]; omega
    · obtain rfl : n = j := by omega
      have HE1 : Hid (c1 = nsum L) := by have := Hc1.out; rw [nsum_end L _ (by rw [HN.out]; exact Nat.le_refl _)] at this; exact this
      have HE3 : Hid (c3 = wsum L) := by have := Hc3.out; rw [wsum_end L _ (by rw [HN.out]; exact Nat.le_refl _)] at this; unfold Hid; omega
      have HE2 : Hid (c2 = capSum k n) := by have := Hc2.out; rw [Nat.sub_self, capSum] at this; exact this
      obtain rfl := HE1.out
      obtain rfl := HE2.out
      obtain rfl := HE3.out
      have h2 : decide ((nsum L : Int) ≤ (capSum k n : Int)) = true := by simp; omega
      clear HE1 HE2 HE3 Hc1 Hc2 Hc3
      go_wp2_with fail
      go_ret
      exact ⟨rfl, HB2.out.trans (HBr.out.mono HB2.out.size)⟩

end Go.Proofs.Ytklicjbpjigfdab
