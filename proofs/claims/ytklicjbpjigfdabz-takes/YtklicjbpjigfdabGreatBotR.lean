/- DERIVED. The walk of the document's own both. -/
import Derived.Test.YtklicjbpjigfdabGreatQ16
import Derived.Deep.CutBlock
namespace Go.Proofs.YtklicjbpjigfdabGreat
open Go.RowKit
attribute [local go_sem ↓] Go.wp_at_zero Go.wp_at_succ
set_option linter.unusedVariables false

set_option maxHeartbeats 4000000 in
set_option maxRecDepth 100000 in
theorem rboth_any (ka kb : Nat) (va ta vb tb vk vj : Value) (la ha lb hb : Int) (sl sm : Bool) (A B : List (Int × Nat)) (TA TB : List Nat) (w : World) (hA : BagAt w va A) (hB : BagAt w vb B) (hTA : Ints w ta (nats TA)) (hTB : Ints w tb (nats TB)) (hlA : A.length ≤ 50000) (hlB : B.length ≤ 50000) (hk1 : ka ≤ 255) (hk2 : kb ≤ 255) (hna : TA.length ≤ 30) (hnb : TB.length ≤ 30) (hba : ∀ j, TA.getD j 0 ≤ 1099511627776) (hbb : ∀ j, TB.getD j 0 ≤ 1099511627776) (hvk : ∃ ko kl kc, vk = .slice ko kl kc) :
    Calls Tryz.prog 88 #[rsVal ka va ta la ha sl vk, rsVal kb vb tb lb hb sm vj] w fun e w' => ∃ vb' vt', e = .returned (rsVal (if kb < ka then kb else ka) vb' vt' (boLo A.length B.length la lb) (boHi A.length B.length ha hb) sl vk) ∧ BagAt w' vb' (A ++ B) ∧ Ints w' vt' (nats (addT TA TB)) ∧ Below w.heap.size w w' ∧ ∀ b, vb'.ownBlock = some b ∨ vt'.ownBlock = some b → w.heap.size ≤ b := by
  obtain ⟨ko, kl, kc, rfl⟩ := hvk
  obtain ⟨ao, acap, rfl, _, _⟩ := hA.form
  obtain ⟨bo, bcap, rfl, _, _⟩ := hB.form
  obtain ⟨oa, tac, rfl, _, _, _⟩ := hTA.form
  obtain ⟨ob, tbc, rfl, _, _, _⟩ := hTB.form
  have HA := hid hA
  have HB := hid hB
  have HTA := hid hTA
  have HTB := hid hTB
  have HST := hid (BoSt.first w (rsBlk ka (.slice ao A.length acap) (.slice oa (nats TA).length tac) la ha sl (.slice ko kl kc)) (rsBlk kb (.slice bo B.length bcap) (.slice ob (nats TB).length tbc) lb hb sm vj) ka la ha sl (.slice ko kl kc))
  generalize hK9 : (if kb < ka then kb else ka) = k9 at *
  have HK9 := hid hK9
  have HLO : Hid (boLo A.length B.length la lb = if A.length = 0 ∨ (0 < B.length ∧ lb < la) then lb else la) := rfl
  generalize boLo A.length B.length la lb = lo9 at *
  have HHI : Hid (boHi A.length B.length ha hb = if A.length = 0 ∨ (0 < B.length ∧ ha < hb) then hb else ha) := rfl
  generalize boHi A.length B.length ha hb = hi9 at *
  generalize hNA : A.length = na at *
  generalize hNB : B.length = nb at *
  have HNA := hid hNA
  have HNB := hid hNB
  clear hA hB hTA hTB hK9 hNA hNB
  go_enter Tryz.func88, Tryz.ntmps88
  go_upto_region 2 with fail
  generalize ((((w.alloc (rsBlk ka (.slice ao na acap) (.slice oa (nats TA).length tac) la ha sl (.slice ko kl kc))).alloc (rsBlk kb (.slice bo nb bcap) (.slice ob (nats TB).length tbc) lb hb sm vj)).alloc rsZero).alloc (rsBlk ka (.slice none 0 0) (.slice none 0 0) la ha sl (.slice ko kl kc))) = wx at *
  obtain ⟨a0, a1, a2, a3, a4, a5, a6, az⟩ := blk7' HST.out.a
  obtain ⟨b0, b1, b2, b3, b4, b5, b6, bz⟩ := blk7' HST.out.b
  obtain ⟨o0, o1, o2, o3, o4, o5, o6, oz⟩ := blk7' HST.out.out
  have hz := lt_of_blk' HST.out.out
  go_upto_if 25 with fail
  go_cut [] from 6 (fun wc => BoSt w wc (rsBlk ka (.slice ao na acap) (.slice oa (nats TA).length tac) la ha sl (.slice ko kl kc)) (rsBlk kb (.slice bo nb bcap) (.slice ob (nats TB).length tbc) lb hb sm vj) (rsArr k9 (.slice none 0 0) (.slice none 0 0) la ha sl (.slice ko kl kc)) (.slice none 0 0) (.slice none 0 0) [] [])
  case first =>
    by_cases hkk : kb < ka
    · have HF : Hid (k9 = kb) := by rw [Hid, ← HK9.out, if_pos hkk]
      go_wp2_with fail
      go_meet
      rw [HF.out]
      exact HST.out.setOut 0 _ (by simp)
    · have HF : Hid (k9 = ka) := by rw [Hid, ← HK9.out, if_neg hkk]
      go_wp2_with fail
      go_meet
      rw [HF.out]
      exact HST.out
  case rest =>
  have HS1 := hid hcut
  clear hcut HST a0 a1 a2 a3 a4 a5 a6 az b0 b1 b2 b3 b4 b5 b6 bz o0 o1 o2 o3 o4 o5 o6 oz hz
  obtain ⟨a0, a1, a2, a3, a4, a5, a6, az⟩ := blk7' HS1.out.a
  obtain ⟨b0, b1, b2, b3, b4, b5, b6, bz⟩ := blk7' HS1.out.b
  obtain ⟨o0, o1, o2, o3, o4, o5, o6, oz⟩ := blk7' HS1.out.out
  have hz := lt_of_blk' HS1.out.out
  go_upto_region 4 with fail
  go_cut [45] from 6 (fun s45 wd => s45 = .bool (decide (na = 0 ∨ (0 < nb ∧ lb < la))) ∧ wc = wd)
  case first =>
    by_cases hn0 : na = 0
    · have hn0' : ((na : Int) == 0) = true := by simp [hn0]
      have HU : Hid (decide (na = 0 ∨ (0 < nb ∧ lb < la)) = true) := decide_eq_true (.inl hn0)
      go_wp2_with fail
      go_meet
      exact ⟨by rw [HU.out], rfl⟩
    · have hn0' : ((na : Int) == 0) = false := by simp [hn0]
      by_cases hn1 : 0 < nb
      · have hn1' : decide ((0 : Int) < (nb : Int)) = true := decide_eq_true (by omega)
        by_cases hll : lb < la
        · have hll' : decide (lb < la) = true := decide_eq_true hll
          have HU : Hid (decide (na = 0 ∨ (0 < nb ∧ lb < la)) = true) := decide_eq_true (.inr ⟨hn1, hll⟩)
          go_wp2_with fail
          go_meet
          exact ⟨by rw [HU.out], rfl⟩
        · have hll' : decide (lb < la) = false := decide_eq_false hll
          have HU : Hid (decide (na = 0 ∨ (0 < nb ∧ lb < la)) = false) := decide_eq_false (fun h => h.elim hn0 (fun h => hll h.2))
          go_wp2_with fail
          go_meet
          exact ⟨by rw [HU.out], rfl⟩
      · have hn1' : decide ((0 : Int) < (nb : Int)) = false := decide_eq_false (by omega)
        have HU : Hid (decide (na = 0 ∨ (0 < nb ∧ lb < la)) = false) := decide_eq_false (fun h => h.elim hn0 (fun h => hn1 h.1))
        go_wp2_with fail
        go_meet
        exact ⟨by rw [HU.out], rfl⟩
  case rest =>
  obtain ⟨rfl, rfl⟩ := hcut
  go_upto_if 45 with fail
  go_cut [] from 6 (fun we => BoSt w we (rsBlk ka (.slice ao na acap) (.slice oa (nats TA).length tac) la ha sl (.slice ko kl kc)) (rsBlk kb (.slice bo nb bcap) (.slice ob (nats TB).length tbc) lb hb sm vj) (rsArr k9 (.slice none 0 0) (.slice none 0 0) lo9 ha sl (.slice ko kl kc)) (.slice none 0 0) (.slice none 0 0) [] [])
  case first =>
    by_cases hcc : na = 0 ∨ (0 < nb ∧ lb < la)
    · have hcc' : decide (na = 0 ∨ (0 < nb ∧ lb < la)) = true := decide_eq_true hcc
      have HF : Hid (lo9 = lb) := by rw [Hid, HLO.out, if_pos hcc]
      simp only [hcc']
      clear hcc hcc'
      go_wp2_with fail
      go_meet
      rw [HF.out]
      exact HS1.out.setOut 3 _ (by simp)
    · have hcc' : decide (na = 0 ∨ (0 < nb ∧ lb < la)) = false := decide_eq_false hcc
      have HF : Hid (lo9 = la) := by rw [Hid, HLO.out, if_neg hcc]
      simp only [hcc']
      clear hcc hcc'
      go_wp2_with fail
      go_meet
      rw [HF.out]
      exact HS1.out
  case rest =>
  have HS2 := hid hcut
  clear hcut HS1 a0 a1 a2 a3 a4 a5 a6 az b0 b1 b2 b3 b4 b5 b6 bz o0 o1 o2 o3 o4 o5 o6 oz hz
  obtain ⟨a0, a1, a2, a3, a4, a5, a6, az⟩ := blk7' HS2.out.a
  obtain ⟨b0, b1, b2, b3, b4, b5, b6, bz⟩ := blk7' HS2.out.b
  obtain ⟨o0, o1, o2, o3, o4, o5, o6, oz⟩ := blk7' HS2.out.out
  have hz := lt_of_blk' HS2.out.out
  go_upto_region 6 with fail
  go_cut [65] from 6 (fun s65 wd => s65 = .bool (decide (na = 0 ∨ (0 < nb ∧ ha < hb))) ∧ wc = wd)
  case first =>
    by_cases hn0 : na = 0
    · have hn0' : ((na : Int) == 0) = true := by simp [hn0]
      have HU : Hid (decide (na = 0 ∨ (0 < nb ∧ ha < hb)) = true) := decide_eq_true (.inl hn0)
      go_wp2_with fail
      go_meet
      exact ⟨by rw [HU.out], rfl⟩
    · have hn0' : ((na : Int) == 0) = false := by simp [hn0]
      by_cases hn1 : 0 < nb
      · have hn1' : decide ((0 : Int) < (nb : Int)) = true := decide_eq_true (by omega)
        by_cases hll : ha < hb
        · have hll' : decide (ha < hb) = true := decide_eq_true hll
          have HU : Hid (decide (na = 0 ∨ (0 < nb ∧ ha < hb)) = true) := decide_eq_true (.inr ⟨hn1, hll⟩)
          go_wp2_with fail
          go_meet
          exact ⟨by rw [HU.out], rfl⟩
        · have hll' : decide (ha < hb) = false := decide_eq_false hll
          have HU : Hid (decide (na = 0 ∨ (0 < nb ∧ ha < hb)) = false) := decide_eq_false (fun h => h.elim hn0 (fun h => hll h.2))
          go_wp2_with fail
          go_meet
          exact ⟨by rw [HU.out], rfl⟩
      · have hn1' : decide ((0 : Int) < (nb : Int)) = false := decide_eq_false (by omega)
        have HU : Hid (decide (na = 0 ∨ (0 < nb ∧ ha < hb)) = false) := decide_eq_false (fun h => h.elim hn0 (fun h => hn1 h.1))
        go_wp2_with fail
        go_meet
        exact ⟨by rw [HU.out], rfl⟩
  case rest =>
  obtain ⟨rfl, rfl⟩ := hcut
  go_upto_if 65 with fail
  go_cut [] from 6 (fun we => BoSt w we (rsBlk ka (.slice ao na acap) (.slice oa (nats TA).length tac) la ha sl (.slice ko kl kc)) (rsBlk kb (.slice bo nb bcap) (.slice ob (nats TB).length tbc) lb hb sm vj) (rsArr k9 (.slice none 0 0) (.slice none 0 0) lo9 hi9 sl (.slice ko kl kc)) (.slice none 0 0) (.slice none 0 0) [] [])
  case first =>
    by_cases hcc : na = 0 ∨ (0 < nb ∧ ha < hb)
    · have hcc' : decide (na = 0 ∨ (0 < nb ∧ ha < hb)) = true := decide_eq_true hcc
      have HF : Hid (hi9 = hb) := by rw [Hid, HHI.out, if_pos hcc]
      simp only [hcc']
      clear hcc hcc'
      go_wp2_with fail
      go_meet
      rw [HF.out]
      exact HS2.out.setOut 4 _ (by simp)
    · have hcc' : decide (na = 0 ∨ (0 < nb ∧ ha < hb)) = false := decide_eq_false hcc
      have HF : Hid (hi9 = ha) := by rw [Hid, HHI.out, if_neg hcc]
      simp only [hcc']
      clear hcc hcc'
      go_wp2_with fail
      go_meet
      rw [HF.out]
      exact HS2.out
  case rest =>
  have HS3 := hid hcut
  clear hcut HS2 HLO HHI HK9 a0 a1 a2 a3 a4 a5 a6 az b0 b1 b2 b3 b4 b5 b6 bz o0 o1 o2 o3 o4 o5 o6 oz hz
  obtain ⟨i1, hi1, hy0, hy1, hy2⟩ := info_parts Tryz.infoItem
  obtain ⟨i0, hi0, hz0, hz1, hz2⟩ := info_parts Tryz.infoInt
  go_upto_block 0 with fail
  go_cut [] from 6 (fun we => ∃ (ro : Option Addr) (rc : Nat), BoSt w we (rsBlk ka (.slice ao na acap) (.slice oa (nats TA).length tac) la ha sl (.slice ko kl kc)) (rsBlk kb (.slice bo nb bcap) (.slice ob (nats TB).length tbc) lb hb sm vj) (rsArr k9 (.slice ro na rc) (.slice none 0 0) lo9 hi9 sl (.slice ko kl kc)) (.slice ro na rc) (.slice none 0 0) A [])
  case first =>
    go_wp2_with fail
    go_loopw [6] (fun si wr => ∃ (t : Nat) (ro : Option Addr) (rc : Nat), t ≤ na ∧ si = .int .i64 t ∧ Hid (BoSt w wr (rsBlk ka (.slice ao na acap) (.slice oa (nats TA).length tac) la ha sl (.slice ko kl kc)) (rsBlk kb (.slice bo nb bcap) (.slice ob (nats TB).length tbc) lb hb sm vj) (rsArr k9 (.slice ro t rc) (.slice none 0 0) lo9 hi9 sl (.slice ko kl kc)) (.slice ro t rc) (.slice none 0 0) (A.take t) [])) (fun si _ => na - (intOf si).toNat)
    case atStart => exact ⟨0, none, 0, Nat.zero_le _, rfl, HS3⟩
    case round =>
      obtain ⟨t, ro, rc, hj, rfl, Hs⟩ := hrel
      clear HS3
      obtain ⟨a0, a1, a2, a3, a4, a5, a6, az⟩ := blk7' Hs.out.a
      obtain ⟨b0, b1, b2, b3, b4, b5, b6, bz⟩ := blk7' Hs.out.b
      obtain ⟨o0, o1, o2, o3, o4, o5, o6, oz⟩ := blk7' Hs.out.out
      have hz := lt_of_blk' Hs.out.out
      by_cases hlt : t < na
      · have hlt' : t < A.length := by rw [HNA.out]; exact hlt
        obtain ⟨g, rfl, hg, hx, hh2⟩ := HA.out.cells hlt'
        have hx' := (Hs.out.bel.cell (p := ⟨g, t * 2, none⟩) hg).trans hx
        have hh' := (Hs.out.bel.cell (p := ⟨g, t * 2 + 1, none⟩) hg).trans hh2
        have HTK : Hid (A.take (t + 1) = A.take t ++ [A.getD t (0, 0)]) := by
          rw [Hid, List.take_succ_eq_append_getElem hlt']; simp [List.getD, hlt']
        have HLN : Hid ((A.take t).length = t) := by rw [Hid, List.length_take]; omega
        generalize A.getD t (0, 0) = z at *
        obtain ⟨zx, zh⟩ := z
        simp only at hx' hh'
        clear hx hh2
        have hs1 : (0 : Int) ≤ (t : Int) := by omega
        have hs2 : (t : Int) < (na : Int) := by omega
        go_upto_region 11 with fail
        go_region_law ((refine step_append_lies _ (by rfl) (.tmp 77) (.tmp 83) 68 (by rfl) w.heap.size 126 i1 (.agg #[.int .i64 0, .int .i64 0]) 2 16 Tryz.underlying68 hi1 hy0 hy1 hy2 rfl (by decide) (.slice ro t rc) t (itCells (A.take t)) (by rfl) (Hs.out.ownAl _ HLN.out) ⟨wr.heap.size, 0, none⟩ 1 1 (itCells [(zx, zh)]) (by rfl) rfl (two_it _ _ _ _) (itCells_one _) (by decide) (by unfold maxLen; omega) (by omega) (by have := Hs.out.bel.size; first | (simp; omega) | (show w.heap.size ≤ (wr.alloc _).heap.size; simp; omega)) (wr.heap.size + 1) (by simp) ?_; intro g2 cap2 w1 hown1 hgrow1 hat1 hlt1; have HS4 := hid (Hs.out.app (vb' := .slice (some ⟨g2, 0, none⟩) (t + 1) cap2) (acc' := A.take (t + 1)) (by rw [HTK.out, itCells_append, List.length_append, HLN.out]; exact hown1) (by first | exact grown_undrew hgrow1 | exact hgrow1)); obtain ⟨q0, q1, q2, q3, q4, q5, q6, qz⟩ := blk7' HS4.out.out; have hz4 := lt_of_blk' HS4.out.out; clear hown1 hgrow1 hat1 hlt1))
        all_goals
          have HS5 := hid (HS4.out.setOut 1 (.slice (some ⟨g2, 0, none⟩) (t + 1) cap2) (oc' := rsArr k9 (.slice (some ⟨g2, 0, none⟩) (t + 1) cap2) (.slice none 0 0) lo9 hi9 sl (.slice ko kl kc)) (by simp))
          clear HS4
          go_wp2_with fail
          go_roundw
          case rel => exact ⟨t + 1, _, _, by omega, by go_num, (by first | exact HS5 | exact HS5.out.drew)⟩
          case measure => simp [intOf]; omega
      · obtain rfl : t = na := by omega
        have HS4 := Hs.out
        rw [List.take_of_length_le (by rw [HNA.out]; exact Nat.le_refl _)] at HS4
        have HS5 := hid HS4
        clear HS4
        go_wp2_with fail
        go_meet
        exact ⟨ro, rc, HS5.out⟩
  case rest =>
  obtain ⟨ro1, rc1, hcut⟩ := hcut
  have HS4 : Hid (BoSt w wc (rsBlk ka (.slice ao na acap) (.slice oa (nats TA).length tac) la ha sl (.slice ko kl kc)) (rsBlk kb (.slice bo nb bcap) (.slice ob (nats TB).length tbc) lb hb sm vj) (rsArr k9 (.slice ro1 (na + 0) rc1) (.slice none 0 0) lo9 hi9 sl (.slice ko kl kc)) (.slice ro1 (na + 0) rc1) (.slice none 0 0) (A ++ B.take 0) []) := by
    rw [Hid, List.take_zero, List.append_nil]; exact hcut
  clear hcut HS3
  go_upto_block 2 with fail
  go_cut [] from 6 (fun we => ∃ (ro : Option Addr) (rc : Nat), BoSt w we (rsBlk ka (.slice ao na acap) (.slice oa (nats TA).length tac) la ha sl (.slice ko kl kc)) (rsBlk kb (.slice bo nb bcap) (.slice ob (nats TB).length tbc) lb hb sm vj) (rsArr k9 (.slice ro (na + nb) rc) (.slice none 0 0) lo9 hi9 sl (.slice ko kl kc)) (.slice ro (na + nb) rc) (.slice none 0 0) (A ++ B) [])
  case first =>
    go_wp2_with fail
    go_loopw [7] (fun si wr => ∃ (t : Nat) (ro : Option Addr) (rc : Nat), t ≤ nb ∧ si = .int .i64 t ∧ Hid (BoSt w wr (rsBlk ka (.slice ao na acap) (.slice oa (nats TA).length tac) la ha sl (.slice ko kl kc)) (rsBlk kb (.slice bo nb bcap) (.slice ob (nats TB).length tbc) lb hb sm vj) (rsArr k9 (.slice ro (na + t) rc) (.slice none 0 0) lo9 hi9 sl (.slice ko kl kc)) (.slice ro (na + t) rc) (.slice none 0 0) (A ++ B.take t) [])) (fun si _ => nb - (intOf si).toNat)
    case atStart => exact ⟨0, ro1, rc1, Nat.zero_le _, rfl, HS4⟩
    case round =>
      obtain ⟨t, ro, rc, hj, rfl, Hs⟩ := hrel
      clear HS4
      obtain ⟨a0, a1, a2, a3, a4, a5, a6, az⟩ := blk7' Hs.out.a
      obtain ⟨b0, b1, b2, b3, b4, b5, b6, bz⟩ := blk7' Hs.out.b
      obtain ⟨o0, o1, o2, o3, o4, o5, o6, oz⟩ := blk7' Hs.out.out
      have hz := lt_of_blk' Hs.out.out
      by_cases hlt : t < nb
      · have hlt' : t < B.length := by rw [HNB.out]; exact hlt
        obtain ⟨g, rfl, hg, hx, hh2⟩ := HB.out.cells hlt'
        have hx' := (Hs.out.bel.cell (p := ⟨g, t * 2, none⟩) hg).trans hx
        have hh' := (Hs.out.bel.cell (p := ⟨g, t * 2 + 1, none⟩) hg).trans hh2
        have HTK : Hid (A ++ B.take (t + 1) = (A ++ B.take t) ++ [B.getD t (0, 0)]) := by
          rw [Hid, List.take_succ_eq_append_getElem hlt']; simp [List.getD, hlt']
        have HLN : Hid ((A ++ B.take t).length = na + t) := by rw [Hid, List.length_append, List.length_take, HNA.out]; omega
        generalize B.getD t (0, 0) = z at *
        obtain ⟨zx, zh⟩ := z
        simp only at hx' hh'
        clear hx hh2
        have hs1 : (0 : Int) ≤ (t : Int) := by omega
        have hs2 : (t : Int) < (nb : Int) := by omega
        go_upto_region 15 with fail
        go_region_law ((refine step_append_lies _ (by rfl) (.tmp 94) (.tmp 100) 68 (by rfl) w.heap.size 126 i1 (.agg #[.int .i64 0, .int .i64 0]) 2 16 Tryz.underlying68 hi1 hy0 hy1 hy2 rfl (by decide) (.slice ro (na + t) rc) (na + t) (itCells (A ++ B.take t)) (by rfl) (Hs.out.ownAl _ HLN.out) ⟨wr.heap.size, 0, none⟩ 1 1 (itCells [(zx, zh)]) (by rfl) rfl (two_it _ _ _ _) (itCells_one _) (by decide) (by unfold maxLen; omega) (by omega) (by have := Hs.out.bel.size; first | (simp; omega) | (show w.heap.size ≤ (wr.alloc _).heap.size; simp; omega)) (wr.heap.size + 1) (by simp) ?_; intro g2 cap2 w1 hown1 hgrow1 hat1 hlt1; have HS4 := hid (Hs.out.app (vb' := .slice (some ⟨g2, 0, none⟩) ((na + t) + 1) cap2) (acc' := A ++ B.take (t + 1)) (by rw [HTK.out, itCells_append, List.length_append, HLN.out]; exact hown1) (by first | exact grown_undrew hgrow1 | exact hgrow1)); obtain ⟨q0, q1, q2, q3, q4, q5, q6, qz⟩ := blk7' HS4.out.out; have hz4 := lt_of_blk' HS4.out.out; clear hown1 hgrow1 hat1 hlt1))
        all_goals
          have HS5 := hid (HS4.out.setOut 1 (.slice (some ⟨g2, 0, none⟩) ((na + t) + 1) cap2) (oc' := rsArr k9 (.slice (some ⟨g2, 0, none⟩) ((na + t) + 1) cap2) (.slice none 0 0) lo9 hi9 sl (.slice ko kl kc)) (by simp))
          clear HS4
          go_wp2_with fail
          go_roundw
          case rel => exact ⟨t + 1, _, _, by omega, by go_num, (by first | exact HS5 | exact HS5.out.drew)⟩
          case measure => simp [intOf]; omega
      · obtain rfl : t = nb := by omega
        have HS4 := Hs.out
        rw [List.take_of_length_le (by rw [HNB.out]; exact Nat.le_refl _)] at HS4
        have HS5 := hid HS4
        clear HS4
        go_wp2_with fail
        go_meet
        exact ⟨ro, rc, HS5.out⟩
  case rest =>
  obtain ⟨ro2, rc2, hcut⟩ := hcut
  have HS5 := hid hcut
  clear hcut HS4
  generalize na + nb = mm at *
  have HAG := hid (addT_getD TA TB)
  have HQA : Hid ((nats TA).length = TA.length) := nats_length TA
  have HQB : Hid ((nats TB).length = TB.length) := nats_length TB
  generalize (nats TA).length = qa at *
  generalize (nats TB).length = qb at *
  have hqa : qa ≤ 30 := by rw [HQA.out]; exact hna
  have hqb : qb ≤ 30 := by rw [HQB.out]; exact hnb
  obtain ⟨nl, hnl⟩ : ∃ nl, nl = max qa qb := ⟨_, rfl⟩
  have HNL : Hid ((addT TA TB).length = nl) := by rw [Hid, addT_length, ← HQA.out, ← HQB.out, hnl]
  have hnl1 : qa ≤ nl := by omega
  have hnl2 : qb ≤ nl := by omega
  have hnl3 : nl ≤ 30 := by omega
  have HNM : Hid (∀ x, x < nl → ¬ x < qa → x < qb) := fun x h1 h2 => by omega
  have HAT := hid (fun x (h : x < qa) => HTA.out.cellN (x := x) (by rw [← HQA.out]; exact h))
  have HBT := hid (fun x (h : x < qb) => HTB.out.cellN (x := x) (by rw [← HQB.out]; exact h))
  have HA0 : Hid (∀ x, ¬ x < qa → TA.getD x 0 = 0) := fun x h => getD_past (by rw [← HQA.out]; omega)
  have HB0 : Hid (∀ x, ¬ x < qb → TB.getD x 0 = 0) := fun x h => getD_past (by rw [← HQB.out]; omega)
  have HVX : Hid (∀ x, x < nl → ints (nats ((addT TA TB).take (x + 1))) = ints (nats ((addT TA TB).take x)) ++ [.int .i64 (((TA.getD x 0 : Nat) : Int) + ((TB.getD x 0 : Nat) : Int))]) := fun x h => ints_more (by rw [HNL.out]; exact h) (by rw [HAG.out]; simp)
  have HLX : Hid (∀ x, x ≤ nl → ((addT TA TB).take x).length = x) := fun x h => by rw [List.length_take, HNL.out]; omega
  have HBA := hid hba
  have HBB := hid hbb
  have HTT : Hid (∀ x, nl ≤ x → (addT TA TB).take x = addT TA TB) := fun x h => List.take_of_length_le (by rw [HNL.out]; exact h)
  clear hna hnb hba hbb hnl HA HB HTA HTB HAG HNL HQA HQB HNA HNB
  go_wp2_with fail
  go_loopw [8] (fun si wr => ∃ (x : Nat) (so : Option Addr) (sc : Nat), x ≤ nl ∧ si = .int .i64 x ∧ Hid (BoSt w wr (rsBlk ka (.slice ao na acap) (.slice oa qa tac) la ha sl (.slice ko kl kc)) (rsBlk kb (.slice bo nb bcap) (.slice ob qb tbc) lb hb sm vj) (rsArr k9 (.slice ro2 mm rc2) (.slice so x sc) lo9 hi9 sl (.slice ko kl kc)) (.slice ro2 mm rc2) (.slice so x sc) (A ++ B) ((addT TA TB).take x))) (fun si _ => nl - (intOf si).toNat)
  case atStart => exact ⟨0, none, 0, Nat.zero_le _, rfl, HS5⟩
  case round =>
    obtain ⟨x, so, sc, hj, rfl, Hs⟩ := hrel
    clear HS5
    obtain ⟨a0, a1, a2, a3, a4, a5, a6, az⟩ := blk7' Hs.out.a
    obtain ⟨b0, b1, b2, b3, b4, b5, b6, bz⟩ := blk7' Hs.out.b
    have hza := lt_of_blk' Hs.out.a
    have hzb := lt_of_blk' Hs.out.b
    clear a0 a1 a3 a4 a5 a6 b0 b1 b3 b4 b5 b6
    go_upto_region 17 with fail
    go_cut [114] from 103 to 144 (fun s114 wd => s114 = .bool (decide (x < nl)) ∧ wd = wr)
    case first =>
      by_cases hxa : x < qa
      · have hxa' : decide ((x : Int) < (qa : Int)) = true := decide_eq_true (by omega)
        have HU : Hid (decide (x < nl) = true) := decide_eq_true (by omega)
        go_wp2_with fail
        go_meet
        exact ⟨by rw [HU.out], rfl⟩
      · have hxa' : decide ((x : Int) < (qa : Int)) = false := decide_eq_false (by omega)
        by_cases hxb : x < qb
        · have hxb' : decide ((x : Int) < (qb : Int)) = true := decide_eq_true (by omega)
          have HU : Hid (decide (x < nl) = true) := decide_eq_true (by omega)
          go_wp2_with fail
          go_meet
          exact ⟨by rw [HU.out], rfl⟩
        · have hxb' : decide ((x : Int) < (qb : Int)) = false := decide_eq_false (by omega)
          have HU : Hid (decide (x < nl) = false) := decide_eq_false (fun h => hxb (HNM.out x h hxa))
          go_wp2_with fail
          go_meet
          exact ⟨by rw [HU.out], rfl⟩
    case rest =>
    obtain ⟨rfl, hwc⟩ := hcut
    obtain rfl := hwc.symm
    clear hwc
    by_cases hx : x < nl
    · have hx' : decide (x < nl) = true := decide_eq_true hx
      simp only [hx']
      go_upto_if 121 with fail
      go_cut [9] from 103 to 144 (fun s9 wd => s9 = .int .i64 ((TA.getD x 0 : Nat) : Int) ∧ wd = wr)
      case first =>
        by_cases hxa : x < qa
        · have hxa' : decide ((x : Int) < (qa : Int)) = true := decide_eq_true (by omega)
          obtain ⟨ga, rfl, hga, hca⟩ := HAT.out x hxa
          have hca' := (Hs.out.bel.cell (p := ⟨ga, x, none⟩) hga).trans hca
          clear hca
          go_wp2_with fail
          go_meet
          exact ⟨rfl, rfl⟩
        · have hxa' : decide ((x : Int) < (qa : Int)) = false := decide_eq_false (by omega)
          have HZ := hid (HA0.out x hxa)
          go_wp2_with fail
          go_meet
          exact ⟨by rw [HZ.out]; rfl, rfl⟩
      case rest =>
      obtain ⟨rfl, hwc⟩ := hcut
      obtain rfl := hwc.symm
      clear hwc
      have hb1 := HBA.out x
      have hb2 := HBB.out x
      go_upto_if 131 with fail
      go_cut [9] from 103 to 144 (fun s9 wd => s9 = .int .i64 (((TA.getD x 0 : Nat) : Int) + ((TB.getD x 0 : Nat) : Int)) ∧ wd = wr)
      case first =>
        by_cases hxb : x < qb
        · have hxb' : decide ((x : Int) < (qb : Int)) = true := decide_eq_true (by omega)
          obtain ⟨gb, rfl, hgb, hcb⟩ := HBT.out x hxb
          have hcb' := (Hs.out.bel.cell (p := ⟨gb, x, none⟩) hgb).trans hcb
          clear hcb
          generalize TA.getD x 0 = ya at *
          generalize TB.getD x 0 = yb at *
          go_wp2_with fail
          go_meet
          exact ⟨rfl, rfl⟩
        · have hxb' : decide ((x : Int) < (qb : Int)) = false := decide_eq_false (by omega)
          have HZ := hid (HB0.out x hxb)
          go_wp2_with fail
          go_meet
          exact ⟨by rw [HZ.out]; simp, rfl⟩
      case rest =>
      obtain ⟨rfl, hwc⟩ := hcut
      obtain rfl := hwc.symm
      clear hwc
      obtain ⟨o0, o1, o2, o3, o4, o5, o6, oz⟩ := blk7' Hs.out.out
      have hz := lt_of_blk' Hs.out.out
      have HV := hid (HVX.out x hx)
      have HLY := hid (HLX.out (x + 1) (by omega))
      have HLZ := hid (HLX.out x (by omega))
      generalize TA.getD x 0 = ya at *
      generalize TB.getD x 0 = yb at *
      go_wp2_with (at_builtin; refine wpList_append_lies _ rfl (.tmp 140) (.tmp 142) 28 rfl w.heap.size 3 i0 (.int .i64 0) 1 8 Tryz.underlying28 hi0 hz0 hz1 hz2 rfl (by decide) (.slice so x sc) x (ints (nats ((addT TA TB).take x))) rfl (Hs.out.ownTAl _ HLZ.out) ⟨wr.heap.size, 0, none⟩ 1 1 [.int .i64 ((ya : Int) + (yb : Int))] rfl rfl (one_new _ _ _) (one_cell _ _) (by decide) (by unfold maxLen; omega) (by omega) (by have := Hs.out.bel.size; simp; omega) (wr.heap.size + 1) (by simp) ?_; intro g2 cap2 w1 hown1 hgrow1 hat1 hlt1; have HS8 := hid (Hs.out.appT (vt' := .slice (some ⟨g2, 0, none⟩) (x + 1) cap2) (tac' := (addT TA TB).take (x + 1)) (by rw [HV.out, HLY.out]; exact hown1) hgrow1); obtain ⟨q0, q1, q2, q3, q4, q5, q6, qz⟩ := blk7' HS8.out.out; have hz8 := lt_of_blk' HS8.out.out; clear hown1 hgrow1 hat1 hlt1)
      have HS9 := hid (HS8.out.setOut 2 (.slice (some ⟨g2, 0, none⟩) (x + 1) cap2) (oc' := rsArr k9 (.slice ro2 mm rc2) (.slice (some ⟨g2, 0, none⟩) (x + 1) cap2) lo9 hi9 sl (.slice ko kl kc)) (by simp))
      clear HS8
      go_roundw
      case rel => exact ⟨x + 1, _, _, by omega, by go_num, HS9⟩
      case measure => simp [intOf]; omega
    · have hx' : decide (x < nl) = false := decide_eq_false hx
      simp only [hx']
      have HS6 := Hs.out
      rw [HTT.out x (by omega)] at HS6
      have HS7 := hid HS6
      clear HS6
      obtain ⟨o0, o1, o2, o3, o4, o5, o6, oz⟩ := blk7' HS7.out.out
      have hz := lt_of_blk' HS7.out.out
      obtain ⟨r0, r1, r2, r3, r4, r5, r6, rz⟩ := blk7' HS7.out.res
      have hzr := lt_of_blk' HS7.out.res
      go_wp2_with fail
      refine bodyPost_ret (v := rsVal k9 (.slice ro2 mm rc2) (.slice so x sc) lo9 hi9 sl (.slice ko kl kc)) (by simp [results, Tryz.results88, go_sem, r0, r1, r2, r3, r4, r5, r6]) rfl ⟨_, _, rfl, (HS7.out.ret _ _ _ _ _ _ _).1, (HS7.out.ret _ _ _ _ _ _ _).2, below_set7 HS7.out.bel (by omega) _ _ _ _ _ _ _, fun b e => e.elim (fun e => (HS7.out.own.lt _ e).1) (fun e => (HS7.out.ownT.lt _ e).1)⟩

end Go.Proofs.YtklicjbpjigfdabGreat
