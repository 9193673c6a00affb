/- DERIVED. The walk of spare: a sketch stays small; how often its levels were thinned. -/
import Derived.Test.YtklicjbpjigfdaaMy
import Derived.Test.YtklicjbpjigfdaaMz
import Derived.Test.YtklicjbpjigfdaaNc
namespace Go.Proofs.Ytklicjbpjigfdaa
open Go.RowKit
variable {K : Nat → Prop} {w0 : World} {nw : Nat}

set_option maxHeartbeats 2000000 in
set_option maxRecDepth 100000 in
theorem spare_any (p d i : Nat) (ps : Nat → Nat) (W : Wd) (w : World) (h : WdSt K w0 w p d nw ps W) (hi : i < nw) (hl : W.D.sks.length = nw) (hc : Came (W.D.sks.getD i Hd.none) (W.sd i)) (hro : Roomy (W.D.sks.getD i Hd.none).sk.k (W.D.sks.getD i Hd.none).sk.lv) (hta : Tall (W.D.sks.getD i Hd.none).sk.lv) :
    Calls Try.prog 16 #[.pointer (some ⟨p, 0, none⟩), .int .i64 (i : Int)] w fun e w' => e = .returned (.tuple #[.int .i64 (tsum (W.D.sks.getD i Hd.none).sk.lv : Int), .bool true]) ∧ Below w.heap.size w w' := by
  have HST := hid h
  obtain ⟨own, vs, vx, vw, h, _⟩ := h
  obtain ⟨gs, cs0, evs, hptr⟩ := h.ptr hi
  obtain ⟨c0, c1, c2, c3, c4, c5, c6, cz⟩ := blk7 h.blk
  rw [evs] at c1
  have hil : i < W.D.sks.length := by rw [hl]; exact hi
  have HD := hid h.desk
  have HS := hid (deskSize d W.D i w h.desk hil hc.inok.ok)
  have hss : ssum (W.D.sks.getD i Hd.none).sk.lv ≤ 1152921504606846976 := by
    have h1 := hro.ssum
    have h2 := hc.inok.ok.cnt
    have h3 : 2 ^ (W.D.sks.getD i Hd.none).sk.lv.length ≤ 1073741824 := pow2_bd (by have := hc.inok.ok.len; omega)
    have h4 := Nat.mul_le_mul h3 h2
    omega
  have HLE := hid (fun (w' : World) (hb : Below w.heap.size w w') => deskLedger d W.D i w' (HD.out.below hb) hil hc.inok.ok hss)
  have HPB := hid h.blk
  have hpz := lt_of_blk' h.blk
  have HSD := hid (h.side i hi)
  have hsz := lt_of_blk' (h.side i hi).blk
  have hlen1 := hc.inok.ok.len1
  have hlen2 := hc.inok.ok.len
  have hcnt := hc.inok.ok.cnt
  have hk1 := hc.inok.ok.k1
  have hk2 := hc.inok.ok.k2
  have HKK := hid hc.k
  have HNN := hid hc.inok.n
  have HSET := hid hc.inok.set
  have htn := hc.tn
  have HRO := hid hro
  have HTA := hid hta
  have HLV := hid (fun (w' : World) (hb : Below w.heap.size w w') (j : Nat) (hj : j < (W.D.sks.getD i Hd.none).sk.lv.length) => deskLevel d W.D i j w' (HD.out.below hb) hil hj hc.inok.ok)
  have hnsl := nsum_le (W.D.sks.getD i Hd.none).sk.lv
  have hcsb := capSum_bd (W.D.sks.getD i Hd.none).sk.k (W.D.sks.getD i Hd.none).sk.lv.length hk2
  generalize W.D.sks.getD i Hd.none = de at *
  generalize W.sd i = sd at *
  generalize ps i = pi at *
  generalize hlve : de.sk.lv = L at *
  generalize hlne : L.length = ln at *
  generalize hke : de.sk.k = k at *
  have HLN0 := hid hlne
  have g3 : decide ((ln : Int) < 1) = false := by simp; omega
  have g4 : decide ((29 : Int) < (ln : Int)) = false := by simp; omega
  have g5 : ((ln : Int) != (ln : Int)) = false := by simp
  clear h hc evs hlve hlne hil hl hss hro hta hke
  go_enter Try.func16, Try.ntmps16
  go_wp2_with fail
  refine HS.out.mono ?_
  rintro e w1 ⟨rfl, hb1⟩
  have hp1 := (hb1.block _ hpz).trans HPB.out
  obtain ⟨q0, q1, q2, q3, q4, q5, q6, qz⟩ := blk7 hp1
  have HB1 := hid hb1
  have hz2 : p < w1.heap.size := lt_of_blk' hp1
  have HPB1 := hid hp1
  clear hb1 hp1
  go_wp2_with fail
  have hbz : Below w.heap.size w (w1.alloc (.cells #[.int .i64 (k : Int), .int .i64 (wsum L : Int), .int .i64 (nsum L : Int), .int .i64 (ln : Int)] 67)) := HB1.out.alloc HB1.out.size _
  refine (HLE.out _ hbz).mono ?_
  rintro e w2 ⟨gt, ct, rfl, hgt, hown, hb2⟩
  have hzb2 : w2.heap[w1.heap.size]? = some (.cells #[.int .i64 (k : Int), .int .i64 (wsum L : Int), .int .i64 (nsum L : Int), .int .i64 (ln : Int)] 67 (0, 0)) := (hb2.block _ (by simp)).trans (heap_alloc_new w1 _)
  have hbw2 : Below w.heap.size w w2 := hbz.trans (hb2.mono hbz.size)
  obtain ⟨z0, z1, z2, z3, zz⟩ := blk4 hzb2
  have hzl := lt_of_blk' hzb2
  have HZ2 := hid hzb2
  have HBW2 := hid hbw2
  have HOW2 := hid hown
  clear hbz hzb2 hbw2 hown hb2 hgt q0 q1 q2 q3 q4 q5 q6 qz HPB1
  generalize hzg : w1.heap.size = zb at *
  clear hzg
  go_wp2_with fail
  have hWB : Below w.heap.size w (w2.alloc (.cells #[.slice (some ⟨gt, 0, none⟩) ln ct, .int .i64 (esum L : Int), .int .i64 (ssum L : Int)] 74)) := HBW2.out.alloc HBW2.out.size _
  have hGB : (w2.alloc (.cells #[.slice (some ⟨gt, 0, none⟩) ln ct, .int .i64 (esum L : Int), .int .i64 (ssum L : Int)] 74)).heap[w2.heap.size]? = some (.cells #[.slice (some ⟨gt, 0, none⟩) ln ct, .int .i64 (esum L : Int), .int .i64 (ssum L : Int)] 74 (0, 0)) := heap_alloc_new w2 _
  have hZB : (w2.alloc (.cells #[.slice (some ⟨gt, 0, none⟩) ln ct, .int .i64 (esum L : Int), .int .i64 (ssum L : Int)] 74)).heap[zb]? = some _ := (Below.heap_alloc w2 _ zb hzl).trans HZ2.out
  have hTR := ownsRow_below HOW2.out ((Below.refl w2.heap.size w2).alloc (Nat.le_refl _) (.cells #[.slice (some ⟨gt, 0, none⟩) ln ct, .int .i64 (esum L : Int), .int .i64 (ssum L : Int)] 74)) (fun g e => ownsRow_lt HOW2.out e)
  generalize w2.alloc (.cells #[.slice (some ⟨gt, 0, none⟩) ln ct, .int .i64 (esum L : Int), .int .i64 (ssum L : Int)] 74) = WB at *
  generalize hgb : w2.heap.size = gb at *
  have hSB : WB.heap[pi]? = some _ := (hWB.block _ hsz).trans HSD.out.blk
  have hPB : WB.heap[p]? = some _ := (hWB.block _ hpz).trans HPB.out
  have HWB := hid hWB
  have HZB := hid hZB
  have HGB := hid hGB
  have HSB := hid hSB
  have HPB2 := hid hPB
  have HTR := hid hTR
  have hzb := lt_of_blk' hZB
  have hgbl := lt_of_blk' hGB
  have hpb := lt_of_blk' hPB
  have hsb := lt_of_blk' hSB
  clear hgb hWB hZB hGB hSB hPB hTR z0 z1 z2 z3 zz c0 c1 c2 c3 c4 c5 c6 cz hptr HPB HS HZ2 HBW2 HOW2 HST HD HLE g3 g4 g5 hz2 hzl HB1
  go_loopw [11, 12, 13, 14, 15] (fun t11 t12 t13 t14 t15 wr => ∃ (j a1 a2 a3 a4 : Nat) (hh : Int), j ≤ ln ∧ hh = (j : Int) - 1 ∧ t15 = .int .i64 hh ∧ t11 = .int .i64 a1 ∧ t12 = .int .i64 a2 ∧ t13 = .int .i64 a3 ∧ t14 = .int .i64 a4 ∧ Hid (a1 = nsum (L.drop j)) ∧ Hid (a2 = capSum k (ln - j)) ∧ Hid (a3 = 2 ^ j * wsum (L.drop j)) ∧ Hid (a4 = tsum (L.drop j)) ∧ Hid (Below WB.heap.size WB wr)) (fun _ _ _ _ t15 _ => (intOf t15 + 1).toNat)
  case atStart => exact ⟨ln, 0, 0, 0, 0, _, Nat.le_refl _, rfl, rfl, rfl, rfl, rfl, rfl, by rw [nsum_end L ln (by rw [HLN0.out]; exact Nat.le_refl _)]; exact rfl, by simp [Hid, capSum], by rw [wsum_end L ln (by rw [HLN0.out]; exact Nat.le_refl _)]; simp [Hid], by rw [List.drop_eq_nil_of_le (by rw [HLN0.out]; exact Nat.le_refl _)]; exact rfl, Below.refl _ _⟩
  case round =>
    obtain ⟨j, a1, a2, a3, a4, hh, hj, hhe, rfl, rfl, rfl, rfl, rfl, Ha1, Ha2, Ha3, Ha4, Hb⟩ := hrel
    obtain ⟨z0, z1, z2, z3, zz⟩ := blk4 ((Hb.out.block _ hzb).trans HZB.out)
    obtain ⟨q0, q1, q2, q3, q4, q5, q6, qz⟩ := blk7 ((Hb.out.block _ hpb).trans HPB2.out)
    have hbw : Below w.heap.size w wr := HWB.out.trans (Hb.out.mono HWB.out.size)
    cases j with
    | succ j =>
      obtain rfl : hh = (j : Int) := by omega
      clear hhe
      have hlt : j < ln := by omega
      have hlt' : j < L.length := by rw [HLN0.out]; exact hlt
      have HL1 := hid (HLV.out wr hbw j hlt)
      have HBW := hid hbw
      have HN1 := hid (nsum_drop L j hlt')
      have HW1 := hid (wsum_drop' L j hlt')
      have HT1 := hid (tsum_drop L j hlt')
      have HC1 : Hid (capSum k (ln - j) = capSum k (ln - (j + 1)) + capOf k (ln - 1 - j)) := by
        rw [show ln - j = (ln - (j + 1)) + 1 by omega, capSum, show ln - 1 - j = ln - (j + 1) by omega]; exact rfl
      have HR1 : Hid ((L.getD j Lvl.none).times * capOf k (ln - 1 - j) ≤ 2 * wsum (L.drop (j + 1))) := by
        have := HRO.out.at hlt'
        rw [HLN0.out] at this
        exact this
      have hn9 := nsum_drop_le L j
      have hw9 := wsum_drop_le L j
      have ht9 := tsum_drop_le L j
      have hc9 := capSum_mono (k := k) (show ln - j ≤ ln by omega)
      have HHO : Hid (∀ w' : World, Calls Try.prog 38 #[.int .i64 (k : Int), .int .i64 ((ln : Int) - 1 - (j : Int))] w' fun e w'' => e = .returned (.int .i64 (capOf k (ln - 1 - j) : Int)) ∧ w'' = w') := fun w' => by
        have := holds_any k (ln - 1 - j) w' hk1 hk2 (by omega)
        rw [show (((ln - 1 - j : Nat)) : Int) = (ln : Int) - 1 - (j : Int) by omega] at this
        exact this
      have HPW := hid (fun (w' : World) => power_any j w' (by omega))
      clear hbw q1 q2 q3 q4 q5 q6 qz z0 z1 z2
      go_wp2_with fail
      refine HL1.out.mono ?_
      rintro e w3 ⟨rfl, hi3, hb3⟩
      have hb4 : Below WB.heap.size WB w3 := Hb.out.trans (hb3.mono Hb.out.size)
      obtain ⟨s0, s1, s2, s3, s4, s5, sz⟩ := blk6 ((hb4.block _ hsb).trans HSB.out)
      rw [HKK.out] at s3
      obtain ⟨y0, y1, y2, y3, yz⟩ := blk4 ((hb4.block _ hzb).trans HZB.out)
      obtain ⟨g0, g1, g2, gz⟩ := blk3 ((hb4.block _ hgbl).trans HGB.out)
      have htc : w3.cell? ⟨gt, j, none⟩ = some (.int .i64 ((L.getD j Lvl.none).times : Int)) := by
        have hr := ownsRow_below HTR.out hb4 (fun g e => ownsRow_lt HTR.out e)
        refine ownsRow_cell hr ?_
        simp [ints, timesOf, List.getD, hlt']
      have HB4 := hid hb4
      have hcb := capOf_bd k (ln - 1 - j) hk2
      have hcg := capOf_ge k (ln - 1 - j)
      have b2 := pow2_bd (j := j) (by omega)
      have b1 : 1 ≤ 2 ^ j := Nat.pow_pos (by decide)
      have HP2 : Hid (2 ^ (j + 1) = 2 ^ j * 2) := Nat.pow_succ ..
      rw [HP2.out] at Ha3
      clear hi3 hb3 hb4 s0 s1 s2 s4 s5 sz y0 y1 y2 yz g1 g2 gz z3 zz q0 hlt' HL1 HLV
      generalize (L.getD j Lvl.none).items.length = m at *
      generalize (L.getD j Lvl.none).times = t at *
      generalize capOf k (ln - 1 - j) = c at *
      generalize hpw : 2 ^ j = pw at *
      have HPW0 := hid hpw
      clear hpw
      generalize nsum (L.drop (j + 1)) = n1 at *
      generalize wsum (L.drop (j + 1)) = w1' at *
      generalize tsum (L.drop (j + 1)) = t1 at *
      generalize capSum k (ln - (j + 1)) = r1 at *
      generalize hnj : nsum (L.drop j) = nj at *
      have HNJ := hid hnj
      clear hnj
      generalize hwj : wsum (L.drop j) = wj at *
      have HWJ := hid hwj
      clear hwj
      generalize htj : tsum (L.drop j) = tj at *
      have HTJ := hid htj
      clear htj
      generalize hrj : capSum k (ln - j) = rj at *
      have HRJ := hid hrj
      clear hrj
      have m1 : (c : Int) * (pw : Int) ≤ 68719476736 := mul_bd hcb b2
      have m2 : (0 : Int) < (c : Int) * (pw : Int) := by
        rw [← Int.natCast_mul]
        exact Int.ofNat_lt.2 (Nat.mul_pos (by omega) (by omega))
      have m3 : ((c : Int) * (pw : Int) == 0) = false := by simp; constructor <;> omega
      have hcp : 0 < c * pw := Nat.mul_pos (by omega) (by omega)
      have hq : t ≤ a3 / (c * pw) := by
        rw [Nat.le_div_iff_mul_le hcp, Ha3.out, ← Nat.mul_assoc, Nat.mul_assoc pw 2 w1', Nat.mul_comm pw]
        exact Nat.mul_le_mul_right _ HR1.out
      have hq' : a3 / (c * pw) ≤ a3 := Nat.div_le_self _ _
      have hsum : a3 + pw * m = pw * wj := by
        rw [Ha3.out, HW1.out, Nat.mul_add, Nat.mul_assoc, Nat.add_comm]
      have d1 : (t : Int) ≤ (a3 : Int) / ((c : Int) * (pw : Int)) := by
        rw [← Int.natCast_mul, ← Int.natCast_ediv]; exact Int.ofNat_le.2 hq
      have d2 : (a3 : Int) / ((c : Int) * (pw : Int)) ≤ 1099511627776 := by
        rw [← Int.natCast_mul, ← Int.natCast_ediv]; omega
      have e1 : (a3 : Int) + (pw : Int) * (m : Int) ≤ 1099511627776 := by
        rw [← Int.natCast_mul]; generalize pw * m = pm at *; omega
      have e2 := mul_nn pw m
      have e3 : a1 + m ≤ 1099511627776 := by have := Ha1.out; have := HN1.out; omega
      have e4 : a2 + c ≤ 1099511627776 := by have := Ha2.out; have := HC1.out; omega
      have e5 : a4 + t ≤ 1099511627776 := by have := Ha4.out; have := HT1.out; omega
      have HSUM := hid hsum
      clear hq hq' hcp hsum
      go_wp2_with fail
      go_quiet ((go_at_call 38; exact Calls.quiet_of_same (HHO.out _)))
      go_wp2_with (first | (go_at_call 23; refine (HPW.out _).mono ?_; rintro e w' ⟨rfl, hw⟩; obtain rfl := hw.symm))
      go_roundw
      case rel =>
        refine ⟨j, a1 + m, a2 + c, a3 + pw * m, a4 + t, (j : Int) - 1, by omega, rfl, by go_num, by go_num, by go_num, by rw [Int.natCast_add, Int.natCast_mul], by go_num, ?_, ?_, ?_, ?_, below_drewN HB4.out _⟩
        · rw [HNJ.out]; have := Ha1.out; have := HN1.out; unfold Hid; omega
        · rw [HRJ.out]; have := Ha2.out; have := HC1.out; unfold Hid; omega
        · rw [HPW0.out, HWJ.out]; exact HSUM.out
        · rw [HTJ.out]; have := Ha4.out; have := HT1.out; unfold Hid; omega
      case measure => simp [intOf]
    | zero =>
      obtain rfl : hh = -1 := by omega
      clear hhe
      have HE1 : Hid (a1 = nsum L) := by have := Ha1.out; rw [List.drop_zero] at this; exact this
      have HE2 : Hid (a2 = capSum k ln) := by have := Ha2.out; rw [Nat.sub_zero] at this; exact this
      have HE3 : Hid (a3 = wsum L) := by have := Ha3.out; rw [List.drop_zero, Nat.pow_zero, Nat.one_mul] at this; exact this
      have HE4 : Hid (a4 = tsum L) := by have := Ha4.out; rw [List.drop_zero] at this; exact this
      obtain ⟨s0, s1, s2, s3, s4, s5, sz⟩ := blk6 ((Hb.out.block _ hsb).trans HSB.out)
      rw [HNN.out] at s2
      have HPW : Hid (∀ w' : World, Calls Try.prog 23 #[.int .i64 ((ln : Int) - 1)] w' fun e w'' => e = .returned (.int .i64 ((2 ^ (ln - 1) : Nat) : Int)) ∧ w'' = w') := fun w' => by
        have := power_any (ln - 1) w' (by omega)
        rw [show (((ln - 1 : Nat)) : Int) = (ln : Int) - 1 by omega] at this
        exact this
      have f1 : ((a3 : Int) == (wsum L : Int)) = true := by rw [HE3.out]; simp
      have f2 : (a1 : Int) ≤ (a2 : Int) := by rw [HE1.out, HE2.out]; exact Int.ofNat_le.2 HSET.out
      have f3 : wsum L = 0 ∨ 2 ^ (ln - 1) ≤ wsum L := by
        have := HTA.out
        unfold Tall at this
        rw [HLN0.out] at this
        rcases this with e | e
        · by_cases h0 : wsum L = 0
          · exact .inl h0
          · right
            rw [show ln - 1 = 0 by omega, Nat.pow_zero]; omega
        · exact .inr e
      have HBW := hid hbw
      clear hbw s0 s1 s3 s4 s5 sz q0 q1 q2 q3 q4 q5 q6 qz z0 z1 z2 HLV HSET HTA Ha1 Ha2 Ha3 Ha4
      generalize 2 ^ (ln - 1) = pw at *
      have f4 : ((wsum L : Int) = 0) ∨ ((pw : Int) ≤ (wsum L : Int)) := by omega
      have f5 : decide ((a1 : Int) ≤ (a2 : Int)) = true := decide_eq_true f2
      by_cases h0 : wsum L = 0
      · have f6 : ((wsum L : Int) == 0) = true := by rw [h0]; rfl
        have H0 := hid h0
        clear h0 f3 f4
        go_wp2_with (first | (go_at_call 23; refine (HPW.out _).mono ?_; rintro e w' ⟨rfl, hw⟩; obtain rfl := hw.symm))
        go_quiet (fail)
        go_wp2_with fail
        go_ret2
        exact ⟨by rw [HE4.out]; rfl, below_drewN HBW.out _⟩
      · have f6 : ((wsum L : Int) == 0) = false := by simp; omega
        have f7 : decide ((pw : Int) ≤ (wsum L : Int)) = true := decide_eq_true (by omega)
        have F9 : Hid (pw ≤ wsum L) := by unfold Hid; omega
        clear f3 f4
        go_wp2_with (first | (go_at_call 23; refine (HPW.out _).mono ?_; rintro e w' ⟨rfl, hw⟩; obtain rfl := hw.symm))
        go_quiet (fail)
        go_wp2_with fail
        go_ret2
        exact ⟨by rw [HE4.out, decide_eq_true F9.out]; rfl, below_drewN HBW.out _⟩

end Go.Proofs.Ytklicjbpjigfdaa
