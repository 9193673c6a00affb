/- DERIVED. The walk of With: a copy into which the number came. -/
import Derived.Test.YtklicjbpjigfdabGreatQ3
import Derived.Deep.AppendLies
import Derived.Deep.RegionHeld3
import Derived.Deep.DrawnRows
import Derived.Deep.RegionWith
import Derived.Deep.Cut
import Derived.Deep.CutRange
namespace Go.Proofs.YtklicjbpjigfdabGreat
open Go.RowKit
variable {F : Nat → Prop}
attribute [local go_sem ↓] Go.wp_at_zero Go.wp_at_succ

set_option maxHeartbeats 1600000 in
set_option maxRecDepth 100000 in
theorem with_any (k g cap wt : Nat) (lo hi x : Int) (vs : List Value) (L : List Lvl) (w : World) (hL : LvAt F w g cap vs L) (hlen : L.length ≤ 29) (hbd : wsum L ≤ 549755813888) (hw2 : wt ≤ 268435456) (hF : ∀ b, w.heap.size ≤ b → F b) :
    Calls Tryz.prog 61 #[skVal k g L.length cap lo hi, .int .i64 x, .int .i64 (wt : Int)] w fun e w' => ∃ g' cap' vs', e = .returned (skVal k g' (withFrom x 29 wt 0 L).length cap' (widenLo (wsum L) lo x) (widenHi (wsum L) hi x)) ∧ w.heap.size ≤ g' ∧ LvAt F w' g' cap' vs' (withFrom x 29 wt 0 L) ∧ Below w.heap.size w w' := by
  have HF := hid hF
  clear hF
  have HC := hid (fun (w' : World) (h : LvAt F w' g cap vs L) => copied_any k g cap lo hi vs L w' h (by omega))
  go_enter Tryz.func61, Tryz.ntmps61
  go_wp2_with fail
  refine (HC.out _ (hL.below (((Below.refl _ _).alloc (Nat.le_refl _) _).alloc (by simp) _))).mono ?_
  rintro e w1 ⟨g1, cap1, rfl, hg1, hL1, hb1⟩
  generalize hW : (w.alloc (.cells #[.int .i64 (k : Int), .slice (some ⟨g, 0, none⟩) L.length cap, .int .i64 lo, .int .i64 hi] 64)).alloc (.cells #[.int .i64 0, .slice none 0 0, .int .i64 0, .int .i64 0] 64) = W at *
  have HW := hid hW
  have hws : W.heap.size = w.heap.size + 1 + 1 := by rw [← hW]; simp
  have hWr : W.heap[w.heap.size + 1]? = some (.cells #[.int .i64 0, .slice none 0 0, .int .i64 0, .int .i64 0] 64 (0, 0)) := by rw [← hW, show w.heap.size + 1 = (w.alloc (.cells #[.int .i64 (k : Int), .slice (some ⟨g, 0, none⟩) L.length cap, .int .i64 lo, .int .i64 hi] 64)).heap.size by simp]; exact heap_alloc_new _ _
  have HWr := hid hWr
  have HB1 := hid hb1
  have hz1 := hb1.size
  have HST0 : Hid (SkSt F W.heap.size w1.heap.size k lo hi L W (w1.alloc (skBlock k g1 L.length cap1 lo hi))) := SkSt.laid hg1 hL1 hb1 hb1.size
  have Hws := hid hws
  clear hW hL1 hb1 hWr hws HC
  go_wp2_with fail
  refine (widen_st W.heap.size w1.heap.size k lo hi x x L W _ HST0.out hz1 (by omega) (by omega)).mono ?_
  rintro e w2 ⟨rfl, hst2⟩
  have HST2 := hid hst2
  clear hst2 HST0
  have hnl := nsum_le L
  have HLO : Hid (widenLo (wsum L) lo x = widenLo (wsum L) lo x) := rfl
  generalize hlo2 : widenLo (wsum L) lo x = lo2 at *
  generalize hhi2 : widenHi (wsum L) hi x = hi2 at *
  have HLO2 := hid hlo2
  have HHI2 := hid hhi2
  generalize hT : withFrom x 29 wt 0 L = T at *
  have HT := hid hT
  generalize hb : w1.heap.size = b at *
  generalize hBB : W.heap.size = B at *
  have HBB := hid hBB
  obtain ⟨i1, hi1, hy0, hy1, hy2⟩ := info_parts Tryz.infoLevel
  have hnsb : nsum L ≤ 549755813888 := by omega
  have hBb : B ≤ b := by omega
  clear hlo2 hhi2 hT hb hBB HLO
  go_wp2_with fail
  go_loopw [8, 9] (fun sh sr wr => ∃ (j r f : Nat) (Lc : List Lvl), sh = .int .i64 j ∧ sr = .int .i64 r ∧ j + f = 29 ∧ Hid (r < 2 ^ f) ∧ r ≤ 268435456 ∧ j ≤ Lc.length ∧ Lc.length ≤ 29 ∧ Hid (nsum Lc ≤ nsum L + j) ∧ Hid (withFrom x f r j Lc = T) ∧ Hid (SkSt F B b k lo2 hi2 Lc W wr)) (fun _ sr _ => (intOf sr).toNat)
  case atStart => exact ⟨0, wt, 29, L, rfl, rfl, rfl, Nat.lt_of_le_of_lt hw2 (by decide), hw2, Nat.zero_le _, hlen, Nat.le_refl _, HT, HST2⟩
  case round =>
    obtain ⟨j, r, f, Lc, rfl, rfl, hjf, Hrf, hr28, hjl, hlc, Hns, Hwf, HSt⟩ := hrel
    clear HST2
    by_cases hr : 0 < r
    · obtain ⟨f', rfl⟩ : ∃ f', f = f' + 1 := by
        cases f with
        | zero => have := Hrf.out; simp at this; omega
        | succ f => exact ⟨f, rfl⟩
      have hbr := HSt.out.lt
      obtain ⟨g2, cap2, vs2, hBg, hb2, hL2, hbel2⟩ := HSt.out
      have HP : Hid (B ≤ g2 ∧ wr.heap[b]? = some (skBlock k g2 Lc.length cap2 lo2 hi2) ∧ LvAt F wr g2 cap2 vs2 Lc ∧ Below B W wr) := ⟨hBg, hb2, hL2, hbel2⟩
      obtain ⟨f0, f1, f2, f3, fz⟩ := blk4 hb2
      have HR : Hid (wr.ownsRow B 140 2 (.slice (some ⟨g2, 0, none⟩) Lc.length cap2) Lc.length (lvCells vs2 Lc)) := ownsRow_up hL2.row hBg
      obtain ⟨nc, hnc⟩ : ∃ nc, nc = Lc.length := ⟨_, rfl⟩
      have HNC := hid hnc
      rw [← hnc] at hjl hlc f1 HR
      have hBr : B ≤ wr.heap.size := by omega
      clear hb2 hL2 hbel2 hnc
      go_upto_if 24 with fail
      go_cut [] from 16 to 49 (fun wc => SkSt F B b k lo2 hi2 (at1 Lc j) W wc)
      case first =>
        by_cases hgr : j = nc
        · have hgr' : ((j : Int) == (nc : Int)) = true := by simp; omega
          have HG0 := hid hgr
          clear hgr
          go_wp2_with (at_builtin; refine wpList_append_lies _ rfl (.tmp 26) (.tmp 28) 62 rfl B 140 i1 (.agg #[.slice none 0 0, .int .i64 0]) 2 32 Tryz.underlying62 hi1 hy0 hy1 hy2 rfl (by decide) (.slice (some ⟨g2, 0, none⟩) nc cap2) nc (lvCells vs2 Lc) rfl (HR.out.alloc _) ⟨wr.heap.size, 0, none⟩ 1 1 [.slice none 0 0, .int .i64 0] rfl rfl (two_new _ _ _ _) (by intro u hu; simp at hu; rcases hu with rfl | rfl <;> rfl) (by decide) (by unfold maxLen; omega) (by omega) (by simp; omega) (wr.heap.size + 1) (by simp) ?_; intro g3 cap3 w3 hown3 hgrow3 hat3 hlt3; have hq := grow_blk HP.out.2.1 hgrow3 (HP.out.2.2.1.ne HP.out.2.1 (by decide)); obtain ⟨q0, q1, q2, q3, qz⟩ := blk4 hq; have HQ := hid hq; have HO1 := hid hown3; have HA1 := hid hat3; have HGR := hid hgrow3; clear hq hown3 hat3 hgrow3)
          go_meet
          have ho := HO1.out
          rw [HNC.out] at ho
          have hst3 := grow_st HP.out.1 HP.out.2.1 HP.out.2.2.1 HP.out.2.2.2 hBb hBr ho HGR.out HA1.out
          rw [← HNC.out] at hst3
          rw [at1, if_pos (by rw [← HNC.out]; exact HG0.out)]
          exact hst3.1
        · have hgr' : ((j : Int) == (nc : Int)) = false := by simp; omega
          go_wp2_with fail
          go_meet
          rw [at1, if_neg (by rw [← HNC.out]; exact hgr)]
          exact HSt.out
      case rest =>
        have HS3 := hid hcut
        have hl1 : j < (at1 Lc j).length := by
          unfold at1; split
          · simp; omega
          · rw [← HNC.out]; rename_i e; rw [← HNC.out] at e; omega
        have hl2 : (at1 Lc j).length ≤ 29 := by
          unfold at1; split
          · rename_i e; simp; omega
          · rw [← HNC.out]; omega
        have hns1 : nsum (at1 Lc j) ≤ nsum L + j := by rw [at1_nsum]; exact Hns.out
        have Hw2 : Hid (withFrom x f' (r / 2) (j + 1) (bit1 x r (at1 Lc j) j) = T) := by have := Hwf.out; rw [withFrom_step hr] at this; exact this
        generalize at1 Lc j = L1 at *
        have hbz3 := hcut.lt
        obtain ⟨g3, cap3, vs3, hBg3, hb3, hL3, hbel3⟩ := hcut
        have HP3 : Hid (B ≤ g3 ∧ wc.heap[b]? = some (skBlock k g3 L1.length cap3 lo2 hi2) ∧ LvAt F wc g3 cap3 vs3 L1 ∧ Below B W wc) := ⟨hBg3, hb3, hL3, hbel3⟩
        obtain ⟨q0, q1, q2, q3, qz⟩ := blk4 hb3
        have g0 := hL3.cell0 hl1
        have gz := hL3.free (j * 2)
        have hO := hL3.its j hl1
        obtain ⟨ao, ca, ev, _⟩ := hO.form
        rw [ev] at g0 hO
        have HO := hid hO
        have hneb : b ≠ g3 := hL3.ne hb3 (by decide)
        have hg3z : g3 < wc.heap.size := hL3.lt
        have hlo : (L1.getD j Lvl.none).items.length ≤ 1099511627776 := by have := nsum_at hl1; omega
        obtain ⟨n1, hn1⟩ : ∃ n1, n1 = L1.length := ⟨_, rfl⟩
        have HN1 := hid hn1
        rw [← hn1] at q1 hl1 hl2
        generalize hOI : (L1.getD j Lvl.none).items = old at *
        have HOI := hid hOI
        generalize hol : old.length = ol at *
        have HOL := hid hol
        have hBr3 : B ≤ wc.heap.size := by omega
        have hs1 : (0 : Int) ≤ (j : Int) := by omega
        have hs2 : (j : Int) < (n1 : Int) := by omega
        clear hn1 hOI hol hO ev hb3 hL3 hbel3 HSt Hwf HP HR f0 f1 f2 f3 fz
        go_upto_if 33 with fail
        go_cut [] from 16 to 49 (fun wd => SkSt F B b k lo2 hi2 (bit1 x r L1 j) W wd)
        case first =>
          by_cases hbit : r % 2 = 1
          · have hbit' : (((r : Int) % 2) == 1) = true := by simp; omega
            have HBT := hid hbit
            clear hbit
            go_upto_region 10 with fail
            go_region_with (first | (go_at_call 84; refine (joined_any _ _ old [x] _ ?_ ?_ (by rw [HOL.out]; exact hlo) (by simp)).mono ?_; exact (HO.out.alloc _).drew; exact (Ints.single _ _).drew; rintro e w4 ⟨cc4, rfl, hown4, hbel4⟩; have hbl := below_alloc_drew hbel4; have p1 := cell_later hbl g0; have p2 := (hbl.frozen (World.block_lt_of_cell? _ _ g0)).trans gz; have p3 := cell_later hbl q1))
            all_goals
              go_wp2_with fail
              go_meet
              rw [bit1, if_pos HBT.out, HOI.out]
              have hf := (items_st HP3.out.1 HP3.out.2.1 HP3.out.2.2.1 HP3.out.2.2.2 hBr3 hbl (Ints.of hown4) (fun c hc => by simp [Value.ownBlock] at hc; subst hc; exact HF.out _ (by have := HBB.out; have := Hws.out; omega)) (by rw [← HN1.out]; exact hl1)).1
              rw [show (wc.alloc (Obj.cells #[Value.int IntKind.i64 x] 3)).drew.heap.size = wc.heap.size + 1 from by simp] at hf
              exact hf
          · have hbit' : (((r : Int) % 2) == 1) = false := by simp; omega
            go_wp2_with fail
            go_meet
            rw [bit1, if_neg hbit]
            exact HS3.out
        case rest =>
          have HS5 := hid hcut
          have hl5 : (bit1 x r L1 j).length = n1 := by rw [bit1_length]; exact HN1.out.symm
          have hns5 : nsum (bit1 x r L1 j) ≤ nsum L + (j + 1) := by have := bit1_nsum (x := x) (w := r) (L := L1) (h := j) (by rw [← HN1.out]; exact hl1); omega
          have HL5 := hid hl5
          have HN5 := hid hns5
          generalize bit1 x r L1 j = L5 at *
          clear hl5 hns5 hcut q0 q1 q2 q3 qz g0 gz
          go_wp2_with fail
          go_roundw
          case rel =>
            refine ⟨j + 1, r / 2, f', L5, by go_num, by go_num, by omega, ?_, by omega, by have := HL5.out; omega, by have := HL5.out; omega, HN5, Hw2, HS5⟩
            have := Hrf.out
            rw [Nat.pow_succ] at this
            unfold Hid
            omega
          case measure => simp [intOf]; omega
    · have hr0 : r = 0 := by omega
      subst hr0
      have Hfin : Hid (Lc = T) := by have := Hwf.out; rw [withFrom_zero] at this; exact this
      obtain ⟨g2, cap2, vs2, hBg, hb2, hL2, hbel2⟩ := HSt.out
      have HP : Hid (B ≤ g2 ∧ wr.heap[b]? = some (skBlock k g2 Lc.length cap2 lo2 hi2) ∧ LvAt F wr g2 cap2 vs2 Lc ∧ Below B W wr) := ⟨hBg, hb2, hL2, hbel2⟩
      obtain ⟨f0, f1, f2, f3, fz⟩ := blk4 hb2
      have hres : wr.heap[w.heap.size + 1]? = some (.cells #[.int .i64 0, .slice none 0 0, .int .i64 0, .int .i64 0] 64 (0, 0)) := (hbel2.block _ (by have := HBB.out; have := Hws.out; omega)).trans HWr.out
      obtain ⟨d0, d1, d2, d3, dz⟩ := blk4 hres
      have HRES := hid hres
      clear hb2 hL2 hbel2 hres HSt Hwf
      go_wp2_with fail
      refine bodyPost_ret (v := skVal k g2 Lc.length cap2 lo2 hi2) (by simp [results, Tryz.results61, go_sem, d0, d1, d2, d3]) rfl ⟨g2, cap2, vs2, ?_, ?_, ?_, ?_⟩
      · rw [HT.out, HLO2.out, HHI2.out, Hfin.out]
      · have := HBB.out; have := Hws.out; omega
      · rw [HT.out, ← Hfin.out]
        refine HP.out.2.2.1.block (fun c hc => set4_other _ _ _ _ (fun e => ?_))
        subst e
        rcases hc with hc | ⟨c, hc⟩
        · have := HBB.out; have := Hws.out; omega
        · rw [HRES.out] at hc; cases hc
      · have hbw : Below w.heap.size w W := by rw [← HW.out]; exact ((Below.refl _ _).alloc (Nat.le_refl _) _).alloc (by simp) _
        refine below_set4 (hbw.trans (HP.out.2.2.2.mono ?_)) (by omega) _ _ _ _
        have := HBB.out; have := Hws.out; omega

end Go.Proofs.YtklicjbpjigfdabGreat
