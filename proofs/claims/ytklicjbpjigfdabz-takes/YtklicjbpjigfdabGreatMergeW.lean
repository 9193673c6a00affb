/- DERIVED. The walk of Merged: a copy into which all of another sketch came. -/
import Derived.Test.YtklicjbpjigfdabGreatQ5
import Derived.Test.YtklicjbpjigfdabGreatQ3
import Derived.Deep.AppendLies
import Derived.Deep.RegionHeld3
import Derived.Deep.DrawnRows
import Derived.Deep.RegionWith
import Derived.Deep.Cut
import Derived.Deep.CutRange
namespace Go.Proofs.YtklicjbpjigfdabGreat
open Go.RowKit
variable {F : Nat → Prop}
attribute [local go_sem ↓] Go.wp_at_zero Go.wp_at_succ

def mergeK (k k2 : Nat) : Nat := if k2 < k then k2 else k
def mergeLo (L T : List Lvl) (lo lo2 : Int) : Int := if 0 < wsum T then widenLo (wsum L) lo lo2 else lo
def mergeHi (L T : List Lvl) (hi hi2 : Int) : Int := if 0 < wsum T then widenHi (wsum L) hi hi2 else hi

theorem SkSt.bel {B b k : Nat} {lo hi : Int} {L : List Lvl} {w wc : World} (h : SkSt F B b k lo hi L w wc) : Below B w wc := by
  obtain ⟨_, _, _, _, _, _, h⟩ := h; exact h
theorem SkSt.setK {B b k k' : Nat} {lo hi : Int} {L : List Lvl} {w wc : World} (h : SkSt F B b k lo hi L w wc) (hB : B ≤ b) : SkSt F B b k' lo hi L w (wc.setCell ⟨b, 0, none⟩ (.int .i64 (k' : Int))) := by
  obtain ⟨g, cap, vs, h1, h2, h3, h4⟩ := h
  have hne : b ≠ g := h3.ne h2 (by decide)
  refine ⟨g, cap, vs, h1, ?_, ?_, h4.setCell hB _⟩
  · have := blk_set (i := 0) (.int .i64 (k' : Int)) h2
    simpa using this
  · refine h3.block (fun c hc => Below.heap_setCell _ _ _ _ (fun e => ?_))
    subst e
    rcases hc with hc | ⟨c', hc⟩
    · exact hne hc
    · rw [h2] at hc; cases hc

set_option maxHeartbeats 2000000 in
set_option maxRecDepth 100000 in
theorem merged_any (k g cap k2 g2 cap2 : Nat) (lo hi lo2 hi2 : Int) (vs vs2 : List Value) (L T : List Lvl) (w : World) (hL : LvAt F w g cap vs L) (hT : LvAt F w g2 cap2 vs2 T) (hlen : L.length ≤ 29) (hlen2 : T.length ≤ 29)
    (hbd : wsum L ≤ 549755813888) (hbd2 : wsum T ≤ 549755813888) (htm : tsum L + tsum T ≤ 549755813888) (hF : ∀ b, w.heap.size ≤ b → F b) :
    Calls Tryz.prog 90 #[skVal k g L.length cap lo hi, skVal k2 g2 T.length cap2 lo2 hi2] w fun e w' => ∃ g' cap' vs', e = .returned (skVal (mergeK k k2) g' (mergeL L T).length cap' (mergeLo L T lo lo2) (mergeHi L T hi hi2)) ∧ w.heap.size ≤ g' ∧ LvAt F w' g' cap' vs' (mergeL L T) ∧ Below w.heap.size w w' := by
  have HF := hid hF
  clear hF
  have HC := hid (fun (w' : World) (h : LvAt F w' g cap vs L) => copied_any k g cap lo hi vs L w' h (by omega))
  obtain ⟨nT, hnT⟩ : ∃ nT, nT = T.length := ⟨_, rfl⟩
  have HNT := hid hnT
  rw [← hnT] at hlen2 ⊢
  clear hnT
  go_enter Tryz.func90, Tryz.ntmps90
  go_wp2_with fail
  refine (HC.out _ (hL.below ((((Below.refl _ _).alloc (Nat.le_refl _) _).alloc (by simp) _).alloc (by simp; omega) _))).mono ?_
  rintro e w1 ⟨g1, cap1, rfl, hg1, hL1, hb1⟩
  generalize hW : ((w.alloc (.cells #[.int .i64 (k : Int), .slice (some ⟨g, 0, none⟩) L.length cap, .int .i64 lo, .int .i64 hi] 64)).alloc (.cells #[.int .i64 (k2 : Int), .slice (some ⟨g2, 0, none⟩) nT cap2, .int .i64 lo2, .int .i64 hi2] 64)).alloc (.cells #[.int .i64 0, .slice none 0 0, .int .i64 0, .int .i64 0] 64) = W at *
  have HW := hid hW
  have hws : W.heap.size = w.heap.size + 1 + 1 + 1 := by rw [← hW]; simp
  have hWr : W.heap[w.heap.size + 1 + 1]? = some (.cells #[.int .i64 0, .slice none 0 0, .int .i64 0, .int .i64 0] 64 (0, 0)) := by rw [← hW, show w.heap.size + 1 + 1 = ((w.alloc (.cells #[.int .i64 (k : Int), .slice (some ⟨g, 0, none⟩) L.length cap, .int .i64 lo, .int .i64 hi] 64)).alloc (.cells #[.int .i64 (k2 : Int), .slice (some ⟨g2, 0, none⟩) nT cap2, .int .i64 lo2, .int .i64 hi2] 64)).heap.size by simp]; exact heap_alloc_new _ _
  have hWt : W.heap[w.heap.size + 1]? = some (.cells #[.int .i64 (k2 : Int), .slice (some ⟨g2, 0, none⟩) nT cap2, .int .i64 lo2, .int .i64 hi2] 64 (0, 0)) := by
    rw [← hW, Below.heap_alloc _ _ _ (by simp), show w.heap.size + 1 = (w.alloc (.cells #[.int .i64 (k : Int), .slice (some ⟨g, 0, none⟩) L.length cap, .int .i64 lo, .int .i64 hi] 64)).heap.size by simp]
    exact heap_alloc_new _ _
  have hbW : Below w.heap.size w W := by rw [← hW]; exact (((Below.refl _ _).alloc (Nat.le_refl _) _).alloc (by simp) _).alloc (by simp; omega) _
  have HWr := hid hWr
  have HWt := hid hWt
  have HBW := hid hbW
  have HT := hid (fun (wr : World) (h : Below W.heap.size W wr) => (hT.below hbW).below h)
  have hz1 := hb1.size
  have hst0 : SkSt F W.heap.size w1.heap.size k lo hi L W (w1.alloc (skBlock k g1 L.length cap1 lo hi)) := SkSt.laid hg1 hL1 hb1 hb1.size
  have HST0 := hid hst0
  have Hws := hid hws
  have hbb : w1.heap.size < (w1.alloc (skBlock k g1 L.length cap1 lo hi)).heap.size := by simp
  have hbox : (w1.alloc (skBlock k g1 L.length cap1 lo hi)).heap[w.heap.size + 1]? = some (.cells #[.int .i64 (k2 : Int), .slice (some ⟨g2, 0, none⟩) nT cap2, .int .i64 lo2, .int .i64 hi2] 64 (0, 0)) := (hst0.bel.block _ (by omega)).trans hWt
  have hbl : (w1.alloc (skBlock k g1 L.length cap1 lo hi)).heap[w1.heap.size]? = some (skBlock k g1 L.length cap1 lo hi) := heap_alloc_new _ _
  obtain ⟨t0, t1, t2, t3, tz⟩ := blk4 hbox
  obtain ⟨s0, s1, s2, s3, sz⟩ := blk4 hbl
  generalize hK9 : mergeK k k2 = k9 at *
  have HK9 := hid hK9
  generalize hLO9 : mergeLo L T lo lo2 = lo9 at *
  have HLO9 := hid hLO9
  generalize hHI9 : mergeHi L T hi hi2 = hi9 at *
  have HHI9 := hid hHI9
  generalize hM : mergeL L T = M at *
  have HM := hid hM
  clear hW hL1 hb1 hWr hWt hws HC hL hT hbW hst0 hbox hbl hK9 hLO9 hHI9 hM
  go_upto_if 14 with fail
  go_cut [] from 8 (fun wc => SkSt F W.heap.size w1.heap.size k9 lo hi L W wc)
  case first =>
    generalize w1.alloc (skBlock k g1 L.length cap1 lo hi) = wx at *
    by_cases hkk : k2 < k
    · go_wp2_with fail
      go_meet
      have := HST0.out.setK (k' := k2) hz1
      rw [← HK9.out, mergeK, if_pos hkk]
      exact this
    · go_wp2_with fail
      go_meet
      rw [← HK9.out, mergeK, if_neg hkk]
      exact HST0.out
  case rest =>
  generalize hb : w1.heap.size = b at *
  have hst2 := hcut
  clear hcut HST0 t0 t1 t2 t3 tz s0 s1 s2 s3 sz
  have hbox2 := (hst2.bel.block (w.heap.size + 1) (by have := Hws.out; omega)).trans HWt.out
  obtain ⟨t0, t1, t2, t3, tz⟩ := blk4 hbox2
  have hTc := HT.out _ hst2.bel
  have HCN := hid (count_any k2 g2 cap2 lo2 hi2 vs2 T wc hTc (by rw [← HNT.out]; omega) (by omega))
  have hbz2 := hst2.lt
  have HST2 := hid hst2
  clear hst2 hbox2 hTc
  rw [← HNT.out] at HCN
  go_upto_if 20 with (go_at_call 60; refine HCN.out.mono ?_; rintro e wd ⟨rfl, hbd1⟩)
  have HST3 : Hid (SkSt F W.heap.size b k9 lo hi L W wd) := HST2.out.below (by omega) hbd1
  have hbox3 := (HST3.out.bel.block (w.heap.size + 1) (by have := Hws.out; omega)).trans HWt.out
  obtain ⟨r0, r1, r2, r3, rz⟩ := blk4 hbox3
  clear hbd1 hbox3 HST2 HCN t0 t1 t2 t3 tz
  go_cut [] from 8 (fun we => SkSt F W.heap.size b k9 lo9 hi9 L W we)
  case first =>
    by_cases hw0 : 0 < wsum T
    · have hw0' : decide ((0 : Int) < (wsum T : Int)) = true := by simp; omega
      go_wp2_with fail
      refine (widen_st W.heap.size b k9 lo hi lo2 hi2 L W _ HST3.out hz1 (by omega) (by omega)).mono ?_
      rintro e wf ⟨rfl, hst4⟩
      go_wp2_with fail
      go_meet
      rw [← HLO9.out, ← HHI9.out, mergeLo, mergeHi, if_pos hw0, if_pos hw0]
      exact hst4
    · have hw0' : decide ((0 : Int) < (wsum T : Int)) = false := by simp; omega
      go_wp2_with fail
      go_meet
      rw [← HLO9.out, ← HHI9.out, mergeLo, mergeHi, if_neg hw0, if_neg hw0]
      exact HST3.out
  case rest =>
  have hst4 := hcut
  clear hcut HST3 r0 r1 r2 r3 rz
  rename World => we
  have hbox4 := (hst4.bel.block (w.heap.size + 1) (by have := Hws.out; omega)).trans HWt.out
  obtain ⟨t0, t1, t2, t3, tz⟩ := blk4 hbox4
  have HST4 := hid hst4
  have hnl := nsum_le L
  have hnt := nsum_le T
  generalize hBB : W.heap.size = B at *
  have HBB := hid hBB
  obtain ⟨i1, hi1, hy0, hy1, hy2⟩ := info_parts Tryz.infoLevel
  have HM2 : Hid (mergeFrom T 0 L = M) := by rw [mergeFrom_eq]; exact HM
  clear hst4 hbox4 hBB hb hbb hg1
  go_wp2_with fail
  go_loopw [29] (fun si wr => ∃ (j : Nat) (Lc : List Lvl), si = .int .i64 j ∧ j ≤ nT ∧ j ≤ Lc.length ∧ Lc.length ≤ 29 ∧ Hid (nsum Lc + nsum (T.drop j) ≤ 1099511627776) ∧ Hid (tsum Lc + tsum (T.drop j) ≤ 549755813888) ∧ Hid (mergeFrom (T.drop j) j Lc = M) ∧ Hid (SkSt F B b k9 lo9 hi9 Lc W wr)) (fun si _ => nT - (intOf si).toNat)
  case atStart => exact ⟨0, L, rfl, Nat.zero_le _, Nat.zero_le _, hlen, by simp only [List.drop_zero]; unfold Hid; omega, by simpa [Hid] using htm, HM2, HST4⟩
  case round =>
    obtain ⟨j, Lc, rfl, hjT, hjl, hlc, Hns, Hts, Hmf, HSt⟩ := hrel
    clear HST4 t0 t1 t2 t3 tz
    by_cases hlt : j < nT
    · have hltT : j < T.length := by rw [← HNT.out]; exact hlt
      have hbr := HSt.out.lt
      have hBr : B ≤ wr.heap.size := by omega
      have hTr := HT.out wr HSt.out.bel
      obtain ⟨aoT, ccT, evT, _⟩ := (hTr.its j hltT).form
      have t0 := hTr.cell0 hltT
      rw [evT] at t0
      have t1 := hTr.cell1 hltT
      have HTI := hid (hTr.its j hltT)
      rw [evT] at HTI
      have HMS := hid (mergeFrom_drop (L := Lc) hltT)
      have hnd := nsum_drop T j hltT
      have htd : tsum (T.drop j) = (T.getD j Lvl.none).times + tsum (T.drop (j + 1)) := by rw [lv_drop T j hltT, tsum]
      have HND := hid hnd
      have HTD := hid htd
      have hgT := hTr.lt
      clear hTr evT hnd htd
      generalize hte : T.getD j Lvl.none = te at *
      have HTE := hid hte
      generalize htl : te.items.length = tl at *
      have HTL := hid htl
      generalize htt : te.times = tt at *
      have HTT := hid htt
      have htlb : tl ≤ 1099511627776 := by have := Hns.out; have := HND.out; omega
      have httb : tt ≤ 549755813888 := by have := Hts.out; have := HTD.out; omega
      clear hte htl htt
      obtain ⟨g5, cap5, vs5, hBg, hb5, hL5, hbel5⟩ := HSt.out
      obtain ⟨f0, f1, f2, f3, fz⟩ := blk4 hb5
      obtain ⟨nc, hnc⟩ : ∃ nc, nc = Lc.length := ⟨_, rfl⟩
      have HNC := hid hnc
      rw [← hnc] at hjl hlc f1
      have hs1 : (0 : Int) ≤ (j : Int) := by omega
      have hs2 : (j : Int) < (nT : Int) := by omega
      have hg5z : g5 < wr.heap.size := hL5.lt
      have HP5 : Hid (wr.heap[b]? = some (skBlock k9 g5 Lc.length cap5 lo9 hi9) ∧ LvAt F wr g5 cap5 vs5 Lc ∧ Below B W wr) := ⟨hb5, hL5, hbel5⟩
      clear hb5 hL5 hbel5 hnc
      go_upto_if 38 with fail
      have hb6 : (wr.alloc (.cells #[.slice aoT tl ccT, .int .i64 (tt : Int)] 140)).heap[b]? = some (skBlock k9 g5 Lc.length cap5 lo9 hi9) := (Below.heap_alloc _ _ _ hbr).trans HP5.out.1
      have hL6 : LvAt F (wr.alloc (.cells #[.slice aoT tl ccT, .int .i64 (tt : Int)] 140)) g5 cap5 vs5 Lc := HP5.out.2.1.below ((Below.refl _ _).alloc (Nat.le_refl _) _)
      have hbel6 : Below B W (wr.alloc (.cells #[.slice aoT tl ccT, .int .i64 (tt : Int)] 140)) := HP5.out.2.2.alloc hBr _
      have hlb : (wr.alloc (.cells #[.slice aoT tl ccT, .int .i64 (tt : Int)] 140)).heap[wr.heap.size]? = some (.cells #[.slice aoT tl ccT, .int .i64 (tt : Int)] 140) := heap_alloc_new _ _
      have hIb : Ints (wr.alloc (.cells #[.slice aoT tl ccT, .int .i64 (tt : Int)] 140)) (.slice aoT tl ccT) te.items := by have := HTI.out.alloc (.cells #[.slice aoT tl ccT, .int .i64 (tt : Int)] 140); exact this
      generalize wr.alloc (.cells #[.slice aoT tl ccT, .int .i64 (tt : Int)] 140) = wb at *
      generalize wr.heap.size = lb at *
      have HLB := hid hlb
      have HIB := hid hIb
      have hlbz := lt_of_blk' hlb
      have hBb2 : B ≤ wb.heap.size := by omega
      have HP : Hid (B ≤ g5 ∧ wb.heap[b]? = some (skBlock k9 g5 Lc.length cap5 lo9 hi9) ∧ LvAt F wb g5 cap5 vs5 Lc ∧ Below B W wb) := ⟨hBg, hb6, hL6, hbel6⟩
      have HSb : Hid (SkSt F B b k9 lo9 hi9 Lc W wb) := ⟨g5, cap5, vs5, hBg, hb6, hL6, hbel6⟩
      obtain ⟨p0, p1, p2, p3, pz⟩ := blk4 hb6
      rw [← HNC.out] at p1
      have HR : Hid (wb.ownsRow B 140 2 (.slice (some ⟨g5, 0, none⟩) Lc.length cap5) Lc.length (lvCells vs5 Lc)) := ownsRow_up hL6.row hBg
      rw [← HNC.out] at HR
      clear hb6 hL6 hbel6 hIb hlb f0 f1 f2 f3 fz t0 t1 HSt HTI hgT HP5
      go_cut [] from 30 to 70 (fun wc => SkSt F B b k9 lo9 hi9 (at1 Lc j) W wc ∧ wc.heap[lb]? = some (.cells #[.slice aoT tl ccT, .int .i64 (tt : Int)] 140) ∧ Ints wc (.slice aoT tl ccT) te.items ∧ (∀ g n cap, wc.cell? ⟨b, 1, none⟩ = some (.slice (some ⟨g, 0, none⟩) n cap) → g ≠ lb))
      case first =>
        by_cases hgr : j = nc
        · have hgr' : ((j : Int) == (nc : Int)) = true := by simp; omega
          have HG0 := hid hgr
          clear hgr
          go_wp2_with (at_builtin; refine wpList_append_lies _ rfl (.tmp 40) (.tmp 42) 62 rfl B 140 i1 (.agg #[.slice none 0 0, .int .i64 0]) 2 32 Tryz.underlying62 hi1 hy0 hy1 hy2 rfl (by decide) (.slice (some ⟨g5, 0, none⟩) nc cap5) nc (lvCells vs5 Lc) rfl (HR.out.alloc _) ⟨wb.heap.size, 0, none⟩ 1 1 [.slice none 0 0, .int .i64 0] rfl rfl (two_new _ _ _ _) (by intro u hu; simp at hu; rcases hu with rfl | rfl <;> rfl) (by decide) (by unfold maxLen; omega) (by omega) (by simp; omega) (wb.heap.size + 1) (by simp) ?_; intro g3 cap3 w3 hown3 hgrow3 hat3 hlt3; have hq := grow_blk HP.out.2.1 hgrow3 (HP.out.2.2.1.ne HP.out.2.1 (by decide)); obtain ⟨q0, q1, q2, q3, qz⟩ := blk4 hq; have HQ := hid hq; have HO1 := hid hown3; have HA1 := hid hat3; have HGR := hid hgrow3; clear hq hown3 hat3 hgrow3)
          go_meet
          have ho := HO1.out
          rw [HNC.out] at ho
          have hst3 := grow_st HP.out.1 HP.out.2.1 HP.out.2.2.1 HP.out.2.2.2 hz1 hBb2 ho HGR.out HA1.out
          rw [← HNC.out] at hst3
          rw [at1, if_pos (by rw [← HNC.out]; exact HG0.out)]
          refine ⟨hst3.1, ?_, HIB.out.kept hst3.2, fun g n cap hc => ?_⟩
          · rw [Below.heap_setCell _ _ _ _ (show lb ≠ b by omega)]
            exact grow_blk HLB.out HGR.out (show lb ≠ g5 by omega)
          · have hbs := blk_set (i := 1) (.slice (some ⟨g3, 0, none⟩) (nc + 1) cap3) HQ.out
            have hbs' := (blk4 (by simpa using hbs)).2.1
            rw [hbs'] at hc
            cases hc
            rcases HA1.out with e | e
            · cases e; show g5 ≠ lb; omega
            · show g3 ≠ lb; omega
        · have hgr' : ((j : Int) == (nc : Int)) = false := by simp; omega
          go_wp2_with fail
          go_meet
          rw [at1, if_neg (by rw [← HNC.out]; exact hgr)]
          refine ⟨HSb.out, HLB.out, HIB.out, fun g n cap hc => ?_⟩
          rw [p1] at hc
          cases hc
          omega
      case rest =>
        obtain ⟨hS7, hlb7, hI7, hne7⟩ := hcut
        have hl1 : j < (at1 Lc j).length := by
          unfold at1; split
          · simp; omega
          · rename_i e; rw [← HNC.out] at e; rw [← HNC.out]; omega
        have hl2 : (at1 Lc j).length ≤ 29 := by
          unfold at1; split
          · rename_i e; simp; omega
          · rw [← HNC.out]; omega
        have hns1 : nsum (at1 Lc j) + nsum (T.drop j) ≤ 1099511627776 := by rw [at1_nsum]; exact Hns.out
        have htt1 : ((at1 Lc j).getD j Lvl.none).times ≤ 549755813888 := by
          rw [at1_times]
          have := tsum_at Lc j
          have := Hts.out
          omega
        have HMS2 : Hid (mergeFrom (T.drop (j + 1)) (j + 1) (mstep Lc j te) = M) := by rw [← HMS.out]; exact Hmf
        have HN9 : Hid (nsum (mstep Lc j te) + nsum (T.drop (j + 1)) ≤ 1099511627776) := by
          have h1 := mstep_nsum (L := Lc) (h := j) (t := te) (by rw [← HNC.out]; exact hjl)
          have := Hns.out; have := HND.out; have := HTL.out
          unfold Hid; omega
        have HT9 : Hid (tsum (mstep Lc j te) + tsum (T.drop (j + 1)) ≤ 549755813888) := by
          have h1 := mstep_tsum (L := Lc) (h := j) (t := te) (by rw [← HNC.out]; exact hjl)
          have := Hts.out; have := HTD.out; have := HTT.out
          unfold Hid; omega
        have HME := hid (mstep_set (L := Lc) (h := j) (t := te))
        have HM9 : Hid ((mstep Lc j te).length = (at1 Lc j).length) := by unfold Hid; rw [mstep_length, at1_length]
        generalize at1 Lc j = L1 at *
        generalize mstep Lc j te = L9 at *
        have hbz3 := hS7.lt
        obtain ⟨g3, cap3, vs3, hBg3, hb3, hL3, hbel3⟩ := hS7
        have HP3 : Hid (B ≤ g3 ∧ wc.heap[b]? = some (skBlock k9 g3 L1.length cap3 lo9 hi9) ∧ LvAt F wc g3 cap3 vs3 L1 ∧ Below B W wc) := ⟨hBg3, hb3, hL3, hbel3⟩
        obtain ⟨q0, q1, q2, q3, qz⟩ := blk4 hb3
        have hglb : g3 ≠ lb := hne7 _ _ _ q1
        obtain ⟨x0, x1, xz⟩ := blk2 hlb7
        have g0 := hL3.cell0 hl1
        have gz := hL3.free (j * 2)
        have hO := hL3.its j hl1
        obtain ⟨ao, ca, ev, _⟩ := hO.form
        rw [ev] at g0 hO
        have HO := hid hO
        have HI7 := hid hI7
        have HLB7 := hid hlb7
        have hneb : b ≠ g3 := hL3.ne hb3 (by decide)
        have hg3z : g3 < wc.heap.size := hL3.lt
        have hlo : (L1.getD j Lvl.none).items.length ≤ 1099511627776 := by have := nsum_at hl1; omega
        obtain ⟨n1, hn1⟩ : ∃ n1, n1 = L1.length := ⟨_, rfl⟩
        have HN1 := hid hn1
        rw [← hn1] at q1 hl1 hl2
        generalize hOI : (L1.getD j Lvl.none).items = old at *
        have HOI := hid hOI
        generalize hol : old.length = ol at *
        have HOL := hid hol
        have hlbz7 := lt_of_blk' hlb7
        have hBr3 : B ≤ wc.heap.size := by omega
        have hs3 : (0 : Int) ≤ (j : Int) := by omega
        have hs4 : (j : Int) < (n1 : Int) := by omega
        clear hn1 hOI hol hO ev hb3 hL3 hbel3 HP HR p0 p1 p2 p3 pz hne7 hlb7 hI7 HSb HLB HIB
        go_upto_region 11 with fail
        go_cut [] from 30 to 70 (fun wd => SkSt F B b k9 lo9 hi9 (setItems L1 j (jn old te.items)) W wd ∧ wd.heap[lb]? = some (.cells #[.slice aoT tl ccT, .int .i64 (tt : Int)] 140) ∧ (∀ g n cap, wd.cell? ⟨b, 1, none⟩ = some (.slice (some ⟨g, 0, none⟩) n cap) → g ≠ lb))
        case first =>
          go_region_with (first | (go_at_call 84; refine (joined_any _ _ old te.items _ ?_ ?_ (by rw [HOL.out]; exact hlo) (by rw [HTL.out]; exact htlb)).mono ?_; exact HO.out.drew; exact HI7.out.drew; rintro e w4 ⟨cc4, rfl, hown4, hbel4⟩; have hbl := undrew hbel4; have p1 := cell_later hbl g0; have p2 := (hbl.frozen (World.block_lt_of_cell? _ _ g0)).trans gz; have p3 := cell_later hbl q1))
          all_goals
            go_wp2_with fail
            go_meet
            have hf := items_st HP3.out.1 HP3.out.2.1 HP3.out.2.2.1 HP3.out.2.2.2 hBr3 hbl (Ints.of hown4) (fun c hc => by simp [Value.ownBlock] at hc; subst hc; exact HF.out _ (by have := HBB.out; have := Hws.out; omega)) (by rw [← HN1.out]; exact hl1)
            refine ⟨hf.1, ?_, fun g n cap hc => ?_⟩
            · rw [Below.heap_setCell _ _ _ _ (show lb ≠ g3 from fun e => hglb e.symm), hbl.block lb hlbz7]
              exact HLB7.out
            · rw [cell_set_other hneb, p3] at hc
              cases hc
              exact hglb
        case rest =>
          obtain ⟨hS8, hlb8, hne8⟩ := hcut
          rename World => wd
          have hl8 : j < (setItems L1 j (jn old te.items)).length := by rw [setItems_length, ← HN1.out]; exact hl1
          have hn8 : (setItems L1 j (jn old te.items)).length = n1 := by rw [setItems_length]; exact HN1.out.symm
          have htt8 : ((setItems L1 j (jn old te.items)).getD j Lvl.none).times ≤ 549755813888 := by rw [setItems_times]; exact htt1
          have HE9 : Hid (L9 = setTimes (setItems L1 j (jn old te.items)) j (((setItems L1 j (jn old te.items)).getD j Lvl.none).times + tt)) := by rw [← HTT.out]; exact HME
          generalize setItems L1 j (jn old te.items) = L8 at *
          have hbz8 := hS8.lt
          obtain ⟨g4, cap4, vs4, hBg4, hb4, hL4, hbel4⟩ := hS8
          have HP4 : Hid (B ≤ g4 ∧ wd.heap[b]? = some (skBlock k9 g4 L8.length cap4 lo9 hi9) ∧ LvAt F wd g4 cap4 vs4 L8 ∧ Below B W wd) := ⟨hBg4, hb4, hL4, hbel4⟩
          obtain ⟨r0, r1, r2, r3, rz⟩ := blk4 hb4
          have hglb4 : g4 ≠ lb := hne8 _ _ _ r1
          rw [hn8] at r1
          obtain ⟨y0, y1, yz⟩ := blk2 hlb8
          have g1' := hL4.cell1 hl8
          have gz1 := hL4.free (j * 2 + 1)
          have hneb4 : b ≠ g4 := hL4.ne hb4 (by decide)
          generalize ht8 : (L8.getD j Lvl.none).times = t8 at *
          have HT8 := hid ht8
          have HN8 := hid hn8
          clear hb4 hL4 hbel4 hne8 hlb8 ht8 hn8 HP3 q0 q1 q2 q3 qz x0 x1 xz g0 gz HO HI7 HLB7
          go_upto_region 12 with fail
          go_region
          all_goals
            go_wp2_with fail
            go_roundw
            case rel =>
              have hst9 := (times_st (t := t8 + tt) HP4.out.1 HP4.out.2.1 HP4.out.2.2.1 HP4.out.2.2.2 hl8).1
              rw [← HE9.out] at hst9
              refine ⟨j + 1, L9, by go_num, by omega, by have := HM9.out; have := HN1.out; omega, by have := HM9.out; have := HN1.out; omega, HN9, HT9, HMS2, ?_⟩
              rw [Int.natCast_add] at hst9
              exact hst9.below (by rw [setCell_size]; omega) ⟨rfl, rfl, rfl, Nat.le_refl _, fun _ _ => rfl⟩
            case measure => simp [intOf]; omega
    · have Hfin : Hid (Lc = M) := by have := Hmf.out; rw [mergeFrom_end (by rw [← HNT.out]; omega)] at this; exact this
      obtain ⟨g6, cap6, vs6, hBg, hb6, hL6, hbel6⟩ := HSt.out
      have HP : Hid (B ≤ g6 ∧ wr.heap[b]? = some (skBlock k9 g6 Lc.length cap6 lo9 hi9) ∧ LvAt F wr g6 cap6 vs6 Lc ∧ Below B W wr) := ⟨hBg, hb6, hL6, hbel6⟩
      obtain ⟨f0, f1, f2, f3, fz⟩ := blk4 hb6
      have hres : wr.heap[w.heap.size + 1 + 1]? = some (.cells #[.int .i64 0, .slice none 0 0, .int .i64 0, .int .i64 0] 64 (0, 0)) := (hbel6.block _ (by have := HBB.out; have := Hws.out; omega)).trans HWr.out
      obtain ⟨d0, d1, d2, d3, dz⟩ := blk4 hres
      have HRES := hid hres
      clear hb6 hL6 hbel6 hres HSt Hmf
      go_wp2_with fail
      refine bodyPost_ret (v := skVal k9 g6 Lc.length cap6 lo9 hi9) (by simp [results, Tryz.results90, go_sem, d0, d1, d2, d3]) rfl ⟨g6, cap6, vs6, ?_, ?_, ?_, ?_⟩
      · rw [HM.out, HLO9.out, HHI9.out, HK9.out, Hfin.out]
      · have := HBB.out; have := Hws.out; omega
      · rw [HM.out, ← Hfin.out]
        refine HP.out.2.2.1.block (fun c hc => set4_other _ _ _ _ (fun e => ?_))
        subst e
        rcases hc with hc | ⟨c, hc⟩
        · have := HBB.out; have := Hws.out; omega
        · rw [HRES.out] at hc; cases hc
      · refine below_set4 (HBW.out.trans (HP.out.2.2.2.mono ?_)) (by omega) _ _ _ _
        have := HBB.out; have := Hws.out; omega

end Go.Proofs.YtklicjbpjigfdabGreat
