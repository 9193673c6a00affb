/- DERIVED. The walk of the statement Space: it returns true, and nothing that was there has turned. -/
import Derived.Test.YtklicjbpjigfdaaWeighsX
import Derived.Test.YtklicjbpjigfdaaSpaceQ
import Derived.Test.YtklicjbpjigfdaaSpareW
namespace Go.Proofs.Ytklicjbpjigfdaa
open Go.RowKit

/-- The thinnings of the first sketches. -/
def tupto (W : Wd) : Nat → Nat
  | 0 => 0
  | j + 1 => tupto W j + tsum (W.D.sks.getD j Hd.none).sk.lv
theorem tupto_le {W : Wd} (h : SInv W) {j : Nat} (hj : j ≤ 3) : tupto W j ≤ W.used := by
  have ht := h.times
  have : j = 0 ∨ j = 1 ∨ j = 2 ∨ j = 3 := by omega
  rcases this with rfl | rfl | rfl | rfl <;> simp only [tupto] <;> omega
theorem tupto_all {W : Wd} (h : SInv W) : tupto W 3 = W.used := by
  have ht := h.times
  simp only [tupto]; omega
theorem WdSt.used {K : Nat → Prop} {w0 w : World} {p d m : Nat} {ps : Nat → Nat} {W : Wd} (h : WdSt K w0 w p d m ps W) : w.cell? ⟨p, 4, none⟩ = some (.int .i64 (W.used : Int)) := by
  obtain ⟨_, _, _, _, h, _⟩ := h
  exact (blk7 h.blk).2.2.2.2.1

set_option maxHeartbeats 2000000 in
set_option maxRecDepth 100000 in
theorem space_walk (k : Int) (coins : ByteArray) (ao : Option Addr) (n cap : Nat) (ss : List St) (w : World) (hk1 : -9223372036854775808 ≤ k) (hk2 : k ≤ 9223372036854775807) (hcs : coins.size ≤ 140737488355328) (hl : ss.length = n) (hr : n * 32 ≤ 140737488351232) (hrg : ∀ s ∈ ss, InRange s.a ∧ InRange s.c)
    (hc : ∀ i, i < n → ∃ b off, ao = some ⟨b, off, none⟩ ∧ b < w.heap.size ∧ w.cell? ⟨b, off + i * 4, none⟩ = some (.int .i64 (ss.getD i St.zero).kd) ∧ w.cell? ⟨b, off + i * 4 + 1, none⟩ = some (.int .i64 (ss.getD i St.zero).a) ∧ w.cell? ⟨b, off + i * 4 + 2, none⟩ = some (.int .i64 (ss.getD i St.zero).b) ∧ w.cell? ⟨b, off + i * 4 + 3, none⟩ = some (.int .i64 (ss.getD i St.zero).c)) :
    Calls Try.prog 4 #[.int .i64 k, .string coins, .slice ao n cap] w fun e w' => e = .returned (.bool true) ∧ Below w.heap.size w w' := by
  have HB := hid (begin_w k coins w hk1 hk2)
  have HC := hid hc
  have HINV := hid (first_sinv k coins hcs)
  have hfl : (ss.filter isAdd).length ≤ n := by rw [← hl]; exact List.length_filter_le _ _
  have HRG : Hid (∀ s ∈ ss.filter isAdd, s.kd ≠ 1 ∧ InRange s.a ∧ InRange s.c) := fun s hs => by
    obtain ⟨h1, h2⟩ := List.mem_filter.1 hs
    exact ⟨by simpa [isAdd] using h2, hrg s h1⟩
  have HL := hid hl
  clear hc hrg hl
  go_enter Try.func4, Try.ntmps4
  go_wp2_with fail
  refine HB.out.mono ?_
  rintro e w1 ⟨p, d, ps, rfl, hst1⟩
  have HST1 := hid hst1
  have hk1' := hst1.keeps
  have HAD := hid (adds_any ao n cap ss w1 HL.out hr (fun i hi => by
    obtain ⟨b, off, e, hb, q0, q1, q2, q3⟩ := HC.out i hi
    have hbk : ∀ o, w1.cell? ⟨b, o, none⟩ = w.cell? ⟨b, o, none⟩ := fun o => World.cell?_of_block (hk1'.block b hb)
    exact ⟨b, off, e, Nat.lt_of_lt_of_le hb hk1'.size, by rw [hbk]; exact q0, by rw [hbk]; exact q1, by rw [hbk]; exact q2, by rw [hbk]; exact q3⟩))
  have HK1 := hid hk1'
  clear hst1 hk1'
  go_wp2_with fail
  refine HAD.out.mono ?_
  rintro e w2 ⟨a2, c2, rfl, hown2, hb2⟩
  have hst2 : WdSt (fun b => b < w.heap.size ∨ Value.ownBlock (.slice a2 (ss.filter isAdd).length c2) = some b) w2 w2 p d 3 ps (Wd.first k coins 3) := HST1.out.again hb2 (fun b e => by
    rcases e with e | e
    · exact .inl ⟨e, e⟩
    · exact .inr (hown2.lt b e))
  have HB2 : Hid (Below w.heap.size w w2) := ⟨hb2.os.trans HK1.out.os, hb2.tape.trans HK1.out.tape, hb2.output.trans HK1.out.output, Nat.le_trans HK1.out.size hb2.size, fun b hb => (hb2.block b (Nat.lt_of_lt_of_le hb HK1.out.size)).trans (HK1.out.block b hb)⟩
  have HO2 := hid hown2
  have HS2 := hid hst2
  generalize ss.filter isAdd = l at *
  generalize hll : l.length = ln at *
  have HLL := hid hll
  clear hown2 hst2 hb2 hll HST1 HK1 HB HC HL
  go_wp2_with fail
  go_loopw [9] (fun si wr => ∃ (i : Nat) (W : Wd), i ≤ ln ∧ si = .int .i64 i ∧ Hid (SInv W) ∧ Hid (WdSt (fun b => b < w.heap.size ∨ Value.ownBlock (.slice a2 ln c2) = some b) w2 wr p d 3 ps W)) (fun si _ => ln - (intOf si).toNat)
  case atStart => exact ⟨0, _, Nat.zero_le _, rfl, HINV, HS2⟩
  case round =>
    obtain ⟨i, W, hi, rfl, Hinv, Hst⟩ := hrel
    clear HS2 HINV
    by_cases hil : i < ln
    · have hil' : i < l.length := by rw [HLL.out]; exact hil
      obtain ⟨gl, rfl⟩ : ∃ g, a2 = some ⟨g, 0, none⟩ := by
        rcases HO2.out.2 with ⟨_, e⟩ | ⟨g, c', cur, e, _⟩
        · omega
        · cases e; exact ⟨g, rfl⟩
      have hrow : wr.ownsRow w1.heap.size 29 4 (.slice (some ⟨gl, 0, none⟩) ln c2) ln (stCells l) := ownsRow_block HO2.out (fun b e => Hst.out.keeps.block b (.inr e))
      have hmem : l.getD i St.zero ∈ l := by simp [List.getD, hil']
      have hg := HRG.out _ hmem
      have q0 := ownsRow_cell hrow (show (stCells l)[i * 4 + 0]? = some _ from (stCells_at l i 0 hil' (by omega)).trans rfl)
      have q1 := ownsRow_cell hrow (show (stCells l)[i * 4 + 1]? = some _ from (stCells_at l i 1 hil' (by omega)).trans rfl)
      have q2 := ownsRow_cell hrow (show (stCells l)[i * 4 + 2]? = some _ from (stCells_at l i 2 hil' (by omega)).trans rfl)
      have q3 := ownsRow_cell hrow (show (stCells l)[i * 4 + 3]? = some _ from (stCells_at l i 3 hil' (by omega)).trans rfl)
      have HR3 : Hid (∀ w' : World, WdSt (fun b => b < w.heap.size ∨ Value.ownBlock (.slice (some ⟨gl, 0, none⟩) ln c2) = some b) w2 w' p d 3 ps W ∨ True → ∀ W', WdSt (fun b => b < w.heap.size ∨ Value.ownBlock (.slice (some ⟨gl, 0, none⟩) ln c2) = some b) w2 w' p d 3 ps W' → w'.cell? ⟨gl, i * 4 + 3, none⟩ = some (.int .i64 (l.getD i St.zero).c)) := fun w' _ W' h' => by
        have hrow' : w'.ownsRow w1.heap.size 29 4 (.slice (some ⟨gl, 0, none⟩) ln c2) ln (stCells l) := ownsRow_block HO2.out (fun b e => h'.keeps.block b (.inr e))
        exact ownsRow_cell hrow' (show (stCells l)[i * 4 + 3]? = some _ from (stCells_at l i 3 hil' (by omega)).trans rfl)
      generalize l.getD i St.zero = st at *
      rw [Nat.add_zero] at q0
      have HSP := hid (step_any p d st.kd st.a st.b st.c ps W wr Hst.out Hinv.out.inv.ok hg.1 hg.2.1 hg.2.2)
      have HWT := hid (fun (w' : World) => weight_any st.c w' hg.2.2.1 hg.2.2.2)
      have hpl := pickN_lt st.a (n := 3) (by omega)
      have hwb := weightN_bd st.c
      have hu1 := Hst.out.used
      have hub := Hinv.out.inv.ok.used
      clear hrow hmem hg
      go_wp2_with fail
      refine HSP.out.mono ?_
      rintro e w6 ⟨rfl, hpost⟩
      obtain ⟨W', hst', hinv', hone⟩ := Hinv.out.add hpl hwb.1 hwb.2 hpost
      have hu2 := hst'.used
      have hub2 := hinv'.inv.ok.used
      have r3 := HR3.out w6 (.inr trivial) W' hst'
      have HS' := hid hst'
      have HI' := hid hinv'
      have HONE := hid hone
      have HTA := hid (tupto_all hinv')
      clear hpost hst' hinv' hone q0 q1 q2 q3 hu1 HR3 HSP Hst Hinv
      generalize weightN st.c = wt at *
      have hcase : ((wt : Int) == 1) = false ∨ (((wt : Int) == 1) = true ∧ decide ((W.used : Int) + 1 < (W'.used : Int)) = false) := by
        by_cases e : wt = 1
        · right
          have := HONE.out e
          exact ⟨by rw [e]; rfl, decide_eq_false (by omega)⟩
        · exact .inl (by simp; omega)
      rcases hcase with g1 | ⟨g1, g2⟩
      all_goals
        go_wp2_with (first | (go_at_call 15; refine (HWT.out _).mono ?_; rintro e w' ⟨rfl, hw⟩; obtain rfl := hw.symm))
        go_loopw [13, 14] (fun st sj wr2 => ∃ (j t : Nat), j ≤ 3 ∧ sj = .int .i64 j ∧ st = .int .i64 t ∧ Hid (t = tupto W' j) ∧ Hid (Below w6.heap.size w6 wr2)) (fun _ sj _ => 3 - (intOf sj).toNat)
        case atStart => exact ⟨0, 0, Nat.zero_le _, rfl, rfl, rfl, Below.refl _ _⟩
        case round =>
          obtain ⟨j, t, hj, rfl, rfl, Ht, Hb2⟩ := hrel
          have hst := HS'.out.below Hb2.out
          by_cases hj3 : j < 3
          · have HSE := hid (spare_any p d j ps W' _ hst hj3 HI'.out.inv.len (HI'.out.inv.came j hj3) (HI'.out.roomy j hj3) (HI'.out.tall j hj3))
            have hle := tupto_le HI'.out (show j + 1 ≤ 3 by omega)
            have HT2 : Hid (tupto W' (j + 1) = t + tsum (W'.D.sks.getD j Hd.none).sk.lv) := by rw [Ht.out]; exact rfl
            have hb9 : t + tsum (W'.D.sks.getD j Hd.none).sk.lv ≤ 1099511627776 := by have := HT2.out; omega
            clear hst hle
            generalize tsum (W'.D.sks.getD j Hd.none).sk.lv = tj at *
            go_wp2_with fail
            refine HSE.out.mono ?_
            rintro e w7 ⟨rfl, hb7⟩
            have HB7 : Hid (Below w6.heap.size w6 w7) := Hb2.out.trans (hb7.mono Hb2.out.size)
            clear hb7
            go_wp2_with fail
            go_roundw
            case rel => exact ⟨j + 1, t + tj, by omega, by go_num, by go_num, HT2.out.symm, HB7⟩
            case measure => simp [intOf]; omega
          · obtain rfl : j = 3 := by omega
            have hu3 := hst.used
            have HST := hid hst
            have g9 : ((t : Int) != (W'.used : Int)) = false := by rw [Ht.out, HTA.out]; simp
            clear hst
            go_wp2_with fail
            go_roundw
            case rel => exact ⟨i + 1, W', by omega, by go_num, HI', HST⟩
            case measure => simp [intOf]; omega
    · go_wp2_with fail
      go_ret
      have hk := Hst.out.keeps
      refine ⟨rfl, ⟨hk.os.trans HB2.out.os, hk.tape.trans HB2.out.tape, hk.output.trans HB2.out.output, Nat.le_trans HB2.out.size hk.size, fun b hb => (hk.block b (.inl hb)).trans (HB2.out.block b hb)⟩⟩

end Go.Proofs.Ytklicjbpjigfdaa
