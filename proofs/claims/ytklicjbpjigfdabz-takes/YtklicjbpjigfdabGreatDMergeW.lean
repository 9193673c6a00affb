/- DERIVED. The walk of the desk's Merge. -/
import Derived.Test.YtklicjbpjigfdabGreatAddW
import Derived.Test.YtklicjbpjigfdabGreatMergeW
namespace Go.Proofs.YtklicjbpjigfdabGreat
open Go.RowKit
variable {F : Nat → Prop}

/-- The sketch behind a Merge that is let in, ahead of settling. -/
def mgL (a b : Hd) : List Lvl := mergeL a.sk.lv b.sk.lv
def mgK (a b : Hd) : Nat := mergeK a.sk.k b.sk.k
def mgLo (a b : Hd) : Int := mergeLo a.sk.lv b.sk.lv a.sk.lo b.sk.lo
def mgHi (a b : Hd) : Int := mergeHi a.sk.lv b.sk.lv a.sk.hi b.sk.hi

theorem addAns.back {N0 d i k : Nat} {lo hi : Int} {D : Dk} {e : Ending} {w wA w1 : World} {o : Option (List Lvl × Nat)} (h : addAns F N0 d i k lo hi D e wA w1 o) (hb : Below w.heap.size w wA) : addAns F N0 d i k lo hi D e w w1 o := by
  cases o with
  | none => exact ⟨h.1, hb.trans (h.2.mono hb.size)⟩
  | some p =>
    obtain ⟨L', u⟩ := p
    obtain ⟨rfl, F', a1, a2, a3⟩ := h
    exact ⟨rfl, F', a1, a2, (Fr.below hb).trans a3 (fun _ _ h => h)⟩
theorem addAns.form {N0 d i k : Nat} {lo hi : Int} {D : Dk} {e : Ending} {w w1 : World} {o : Option (List Lvl × Nat)} (h : addAns F N0 d i k lo hi D e w w1 o) : ∃ v : Int, e = .returned (.int .i64 v) ∧ (v = 0 ∨ v = 7) := by
  cases o with
  | none => exact ⟨7, h.1, .inr rfl⟩
  | some p => exact ⟨0, h.1, .inl rfl⟩

set_option maxHeartbeats 1000000 in
set_option maxRecDepth 100000 in
/-- What comes in is b, whose levels lie anywhere. -/
theorem mergeIn_any (N0 d i g2 cap2 : Nat) (df : Hd) (vs2 : List Value) (D : Dk) (w : World) (h : DeskAt F w d D) (hN : N0 ≤ w.heap.size) (hi : i < D.sks.length) (hL2 : LvAt (fun b => F b ∨ N0 ≤ b) w g2 cap2 vs2 df.sk.lv) (hok : (D.sks.getD i Hd.none).Ok) (hok2 : df.Ok) (hts : tsum (D.sks.getD i Hd.none).sk.lv + tsum df.sk.lv ≤ 549755813888) (htp : D.tape.length ≤ 1024) :
    Calls Tryz.prog 65 #[.pointer (some ⟨d, 0, none⟩), .int .i64 (i : Int), skVal df.sk.k g2 df.sk.lv.length cap2 df.sk.lo df.sk.hi] w fun e w' =>
      if wsum (D.sks.getD i Hd.none).sk.lv + wsum df.sk.lv ≤ 268435456 then addAns F N0 d i (mgK (D.sks.getD i Hd.none) df) (mgLo (D.sks.getD i Hd.none) df) (mgHi (D.sks.getD i Hd.none) df) D e w w' (settle (mgK (D.sks.getD i Hd.none) df) D.tape 0 (mgL (D.sks.getD i Hd.none) df))
      else e = .returned (.int .i64 6) ∧ Below w.heap.size w w' := by
  have hD := h
  have hbP : Below w.heap.size w (w.alloc (skBlk df.sk.k g2 df.sk.lv.length cap2 df.sk.lo df.sk.hi)) := (Below.refl w.heap.size w).alloc (Nat.le_refl _) _
  obtain ⟨vt, vk, rs, h⟩ := h.below hbP
  have hdz := lt_of_blk' h.blk
  obtain ⟨g, c, rfl, hg, q0, q1, q2, q3, q4⟩ := h.cells5 hi
  obtain ⟨_, _, c2, _⟩ := blk3 h.blk
  have HOK := hid hok
  have HOK2 := hid hok2
  have hLv := hid (h.lv i hi)
  have hLv2 := hid hL2
  have HD := hid hD
  have hcnt := hok.cnt
  have hcnt2 := hok2.cnt
  generalize hde : D.sks.getD i Hd.none = de at *
  have HDE := hid hde
  generalize rs.getD i Ref.none = r at *
  have hs1 : (0 : Int) ≤ (i : Int) := by omega
  have hs2 : (i : Int) < (D.sks.length : Int) := by omega
  clear h hok hok2 hD hde hL2 q4
  go_enter Tryz.func65, Tryz.ntmps65
  go_wp2_with fail
  have hbA : Below w.heap.size w ((w.alloc (skBlk df.sk.k g2 df.sk.lv.length cap2 df.sk.lo df.sk.hi)).alloc (skBlk de.sk.k r.g de.sk.lv.length r.cap de.sk.lo de.sk.hi)) := ((Below.refl w.heap.size w).alloc (Nat.le_refl _) _).alloc (by simp) _
  refine (count_any de.sk.k r.g r.cap de.sk.lo de.sk.hi r.vs de.sk.lv _ (hLv.out.below ((Below.refl _ _).alloc (Nat.le_refl _) _)) (by have := HOK.out.len; omega) (by omega)).mono ?_
  rintro e w1 ⟨rfl, hb1⟩
  have hk2 := below_new hb1 (by simp)
  have hk1 := (hb1.block w.heap.size (by simp; omega)).trans ((Below.heap_alloc _ _ _ (by simp)).trans (heap_alloc_new w (skBlk df.sk.k g2 df.sk.lv.length cap2 df.sk.lo df.sk.hi)))
  rw [show (w.alloc (skBlk df.sk.k g2 df.sk.lv.length cap2 df.sk.lo df.sk.hi)).heap.size = w.heap.size + 1 by simp] at hk2
  obtain ⟨e0, e1, e2, e3, ez⟩ := blk4 hk1
  obtain ⟨f0, f1, f2, f3, fz⟩ := blk4 hk2
  have hB1 : Below w.heap.size w w1 := hbA.trans (hb1.mono hbA.size)
  have HB1 := hid hB1
  have HK1 := hid hk1
  have HK2 := hid hk2
  have hLw1 : LvAt F w1 r.g r.cap r.vs de.sk.lv := (hLv.out.below ((Below.refl _ _).alloc (Nat.le_refl _) _)).below hb1
  have HLW1 := hid hLw1
  have hsz1 : w.heap.size + 1 + 1 ≤ w1.heap.size := by have := hb1.size; simp at this; omega
  clear hb1 hbA hk1 hk2 hB1 hbP hLw1
  go_wp2_with fail
  refine (count_any df.sk.k g2 cap2 df.sk.lo df.sk.hi vs2 df.sk.lv _ (hLv2.out.below HB1.out) (by have := HOK2.out.len; omega) (by omega)).mono ?_
  rintro e w2 ⟨rfl, hb2⟩
  have hk1 := (hb2.block w.heap.size (by omega)).trans HK1.out
  have hk2 := (hb2.block (w.heap.size + 1) (by omega)).trans HK2.out
  clear e0 e1 e2 e3 ez f0 f1 f2 f3 fz
  obtain ⟨e0, e1, e2, e3, ez⟩ := blk4 hk1
  obtain ⟨f0, f1, f2, f3, fz⟩ := blk4 hk2
  have HB2 : Hid (Below w.heap.size w w2) := HB1.out.trans (hb2.mono HB1.out.size)
  have HLW2 : Hid (LvAt F w2 r.g r.cap r.vs de.sk.lv) := HLW1.out.below hb2
  clear hb2 hk1 hk2 HK1 HK2
  by_cases hfull : wsum de.sk.lv + wsum df.sk.lv ≤ 268435456
  · go_wp2_with fail
    refine (merged_any (F := fun b => F b ∨ N0 ≤ b) de.sk.k r.g r.cap df.sk.k g2 cap2 de.sk.lo de.sk.hi df.sk.lo df.sk.hi r.vs vs2 de.sk.lv df.sk.lv w2 (HLW2.out.mono (fun b hb _ => .inl hb)) (hLv2.out.below HB2.out) HOK.out.len HOK2.out.len (by omega) (by omega) hts (fun b hb => .inr (by have := HB2.out.size; omega))).mono ?_
    rintro e w3 ⟨g3, cap3, vs3, rfl, hg3, hL3, hb3⟩
    have HB3 : Hid (Below w.heap.size w w3) := HB2.out.trans (hb3.mono HB2.out.size)
    have HL3 := hid hL3
    have hl9 : (mergeL de.sk.lv df.sk.lv).length ≤ 29 := by rw [mergeL_length]; have := HOK.out.len; have := HOK2.out.len; omega
    have hw9 : wsum (mergeL de.sk.lv df.sk.lv) ≤ 268435456 := by rw [mergeL_wsum]; exact hfull
    have ht9 : Hid (∀ j, ((mergeL de.sk.lv df.sk.lv).getD j Lvl.none).times ≤ 549755813888) := fun j => by
      have := tsum_at (mergeL de.sk.lv df.sk.lv) j
      rw [mergeL_tsum] at this; omega
    have hk9 : mergeK de.sk.k df.sk.k ≤ 64 := by unfold mergeK; have := HOK.out.k2; have := HOK2.out.k2; split <;> omega
    have HLE : Hid (mgL de df = mergeL de.sk.lv df.sk.lv) := rfl
    have HKE : Hid (mgK de df = mergeK de.sk.k df.sk.k) := rfl
    have HLOE : Hid (mgLo de df = mergeLo de.sk.lv df.sk.lv de.sk.lo df.sk.lo) := rfl
    have HHIE : Hid (mgHi de df = mergeHi de.sk.lv df.sk.lv de.sk.hi df.sk.hi) := rfl
    generalize mergeL de.sk.lv df.sk.lv = L9 at *
    generalize mergeLo de.sk.lv df.sk.lv de.sk.lo df.sk.lo = lo9 at *
    generalize mergeHi de.sk.lv df.sk.lv de.sk.hi df.sk.hi = hi9 at *
    generalize mergeK de.sk.k df.sk.k = k9 at *
    clear hb3 hL3 e0 e1 e2 e3 ez f0 f1 f2 f3 fz
    go_wp2_with fail
    have hbC : Below w3.heap.size w3 (w3.alloc (skBlk k9 g3 L9.length cap3 lo9 hi9)) := (Below.refl _ _).alloc (Nat.le_refl _) _
    refine (settle_any (F := F) N0 d i k9 g3 cap3 lo9 hi9 D vs3 L9 _ ((HD.out.below HB3.out).below hbC) hi (by have := HB3.out.size; simp; omega) (HL3.out.below hbC) hk9 hl9 hw9 ht9.out htp).mono ?_
    intro e w4 hans
    have hbw : Below w.heap.size w (w3.alloc (skBlk k9 g3 L9.length cap3 lo9 hi9)) := HB3.out.trans (hbC.mono HB3.out.size)
    have HBW := hid hbw
    clear hbw hbC
    cases hset : settle k9 D.tape 0 L9 with
    | none =>
      rw [hset] at hans
      obtain ⟨rfl, hb4⟩ := hans
      have HSET := hid hset
      have HB4 := hid hb4
      clear hset hb4
      go_wp2_with fail
      go_ret
      rw [HLE.out, HLOE.out, HHIE.out, HKE.out, HSET.out]
      exact ⟨rfl, HBW.out.trans (HB4.out.mono HBW.out.size)⟩
    | some p =>
      obtain ⟨L', u⟩ := p
      rw [hset] at hans
      obtain ⟨rfl, F', a1, a2, a3⟩ := hans
      have HSET := hid hset
      have A1 := hid a1
      have A2 := hid a2
      have A3 := hid a3
      clear hset a1 a2 a3
      go_wp2_with fail
      go_ret
      rw [HLE.out, HLOE.out, HHIE.out, HKE.out, HSET.out]
      exact ⟨rfl, F', A1.out, A2.out, (Fr.below HBW.out).trans A3.out (fun _ _ h => h)⟩
  · go_wp2_with fail
    go_ret
    exact ⟨rfl, HB2.out⟩

set_option maxHeartbeats 1000000 in
set_option maxRecDepth 100000 in
theorem dmerge_any (d i j : Nat) (D : Dk) (w : World) (h : DeskAt F w d D) (hi : i < D.sks.length) (hj : j < D.sks.length) (hok : (D.sks.getD i Hd.none).Ok) (hok2 : (D.sks.getD j Hd.none).Ok) (hun : (D.sks.getD i Hd.none).sealed = false) (hts : tsum (D.sks.getD i Hd.none).sk.lv + tsum (D.sks.getD j Hd.none).sk.lv ≤ 549755813888) (htp : D.tape.length ≤ 1024) :
    Calls Tryz.prog 31 #[.pointer (some ⟨d, 0, none⟩), .int .i64 (i : Int), .int .i64 (j : Int)] w fun e w' =>
      if wsum (D.sks.getD i Hd.none).sk.lv + wsum (D.sks.getD j Hd.none).sk.lv ≤ 268435456 then addAns F w.heap.size d i (mgK (D.sks.getD i Hd.none) (D.sks.getD j Hd.none)) (mgLo (D.sks.getD i Hd.none) (D.sks.getD j Hd.none)) (mgHi (D.sks.getD i Hd.none) (D.sks.getD j Hd.none)) D e w w' (settle (mgK (D.sks.getD i Hd.none) (D.sks.getD j Hd.none)) D.tape 0 (mgL (D.sks.getD i Hd.none) (D.sks.getD j Hd.none)))
      else e = .returned (.int .i64 6) ∧ Below w.heap.size w w' := by
  have hD := h
  obtain ⟨vt, vk, rs, h⟩ := h
  have hdz := lt_of_blk' h.blk
  obtain ⟨g, c, rfl, hg, q0, q1, q2, q3, q4⟩ := h.cells5 hi
  obtain ⟨g', c', ek, hg', p0, p1, p2, p3, p4⟩ := h.cells5 hj
  cases ek
  obtain ⟨_, _, c2, _⟩ := blk3 h.blk
  have HH := hid (has_any d (i : Int) _ _ _ _ c2)
  have HH2 := hid (has_any d (j : Int) _ _ _ _ c2)
  rw [hasB_nat hi] at HH
  rw [hasB_nat hj] at HH2
  rw [hun] at q4
  have hal : Below w.heap.size w (w.alloc (skBlk (D.sks.getD j Hd.none).sk.k (rs.getD j Ref.none).g (D.sks.getD j Hd.none).sk.lv.length (rs.getD j Ref.none).cap (D.sks.getD j Hd.none).sk.lo (D.sks.getD j Hd.none).sk.hi)) := (Below.refl w.heap.size w).alloc (Nat.le_refl _) _
  have HM := hid (mergeIn_any w.heap.size d i _ _ (D.sks.getD j Hd.none) _ D _ (hD.below hal) hal.size hi (((h.lv j hj).below hal).mono (fun b hb _ => .inl hb)) hok hok2 hts htp)
  have HAL := hid hal
  generalize D.sks.getD j Hd.none = df at *
  generalize D.sks.getD i Hd.none = de at *
  generalize rs.getD j Ref.none = r2 at *
  have hs1 : (0 : Int) ≤ (i : Int) := by omega
  have hs2 : (i : Int) < (D.sks.length : Int) := by omega
  have hs3 : (0 : Int) ≤ (j : Int) := by omega
  have hs4 : (j : Int) < (D.sks.length : Int) := by omega
  clear h hok hok2 hD hun hal
  go_enter Tryz.func31, Tryz.ntmps31
  go_wp2_with fail
  refine HH.out.mono ?_
  rintro e w' ⟨rfl, hw⟩
  obtain rfl := hw.symm
  clear HH hw
  go_wp2_with fail
  refine HH2.out.mono ?_
  rintro e w' ⟨rfl, hw⟩
  obtain rfl := hw.symm
  clear HH2 hw
  go_wp2_with fail
  refine HM.out.mono ?_
  intro e w1 hans
  have hform : ∃ v : Int, e = .returned (.int .i64 v) := by
    split at hans
    · obtain ⟨v, h, _⟩ := hans.form; exact ⟨v, h⟩
    · exact ⟨6, hans.1⟩
  obtain ⟨v, rfl⟩ := hform
  have HANS := hid hans
  clear hans
  by_cases hf : wsum de.sk.lv + wsum df.sk.lv ≤ 268435456
  · rw [if_pos hf] at HANS
    go_wp2_with fail
    go_ret
    exact HANS.out.back HAL.out
  · rw [if_neg hf] at HANS
    go_wp2_with fail
    go_ret
    exact ⟨HANS.out.1, HAL.out.trans (HANS.out.2.mono HAL.out.size)⟩

end Go.Proofs.YtklicjbpjigfdabGreat
