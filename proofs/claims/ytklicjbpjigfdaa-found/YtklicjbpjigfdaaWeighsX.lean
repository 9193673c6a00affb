/- DERIVED. The walk of the statement Weighs: it returns true, and nothing that was there has turned. -/
import Derived.Test.YtklicjbpjigfdaaNc
import Derived.Test.YtklicjbpjigfdaaAddsW
namespace Go.Proofs.Ytklicjbpjigfdaa
open Go.RowKit

/-- The world is looked at from here on; a row that nobody owns is kept too. -/
theorem WdSt.again {K K2 : Nat → Prop} {w0 w w2 : World} {p d m : Nat} {ps : Nat → Nat} {W : Wd} (h : WdSt K w0 w p d m ps W) (hb : Below w.heap.size w w2) (hK : ∀ b, K2 b → (K b ∧ b < w0.heap.size) ∨ (w.heap.size ≤ b ∧ b < w2.heap.size)) : WdSt K2 w2 w2 p d m ps W := by
  obtain ⟨own, vs, vx, vw, h, h2, h3⟩ := h
  refine ⟨own, vs, vx, vw, h.below hb, fun b e => ?_, Keeps.refl _ _⟩
  rcases hK b e with ⟨e1, e2⟩ | ⟨e1, e2⟩
  · exact ⟨(h2 b e1).1, by have := h3.size; have := hb.size; omega⟩
  · exact ⟨Decidable.byContradiction fun hn => by have := h.lt b hn; omega, e2⟩
set_option maxHeartbeats 2000000 in
set_option maxRecDepth 100000 in
theorem weighs_walk (k : Int) (coins : ByteArray) (ao : Option Addr) (n cap : Nat) (ss : List St) (w : World) (hk1 : -9223372036854775808 ≤ k) (hk2 : k ≤ 9223372036854775807) (hcs : coins.size ≤ 140737488355328) (hl : ss.length = n) (hr : n * 32 ≤ 140737488351232) (hrg : ∀ s ∈ ss, InRange s.a ∧ InRange s.c)
    (hc : ∀ i, i < n → ∃ b off, ao = some ⟨b, off, none⟩ ∧ b < w.heap.size ∧ w.cell? ⟨b, off + i * 4, none⟩ = some (.int .i64 (ss.getD i St.zero).kd) ∧ w.cell? ⟨b, off + i * 4 + 1, none⟩ = some (.int .i64 (ss.getD i St.zero).a) ∧ w.cell? ⟨b, off + i * 4 + 2, none⟩ = some (.int .i64 (ss.getD i St.zero).b) ∧ w.cell? ⟨b, off + i * 4 + 3, none⟩ = some (.int .i64 (ss.getD i St.zero).c)) :
    Calls Try.prog 3 #[.int .i64 k, .string coins, .slice ao n cap] w fun e w' => e = .returned (.bool true) ∧ Below w.heap.size w w' := by
  have HB := hid (begin_w k coins w hk1 hk2)
  have HC := hid hc
  have HINV := hid (first_inv k coins hcs)
  have hfl : (ss.filter isAdd).length ≤ n := by rw [← hl]; exact List.length_filter_le _ _
  have HRG : Hid (∀ s ∈ ss.filter isAdd, s.kd ≠ 1 ∧ InRange s.a ∧ InRange s.c) := fun s hs => by
    obtain ⟨h1, h2⟩ := List.mem_filter.1 hs
    exact ⟨by simpa [isAdd] using h2, hrg s h1⟩
  have HL := hid hl
  clear hc hrg hl
  go_enter Try.func3, Try.ntmps3
  go_wp2_with fail
  refine HB.out.mono ?_
  rintro e w1 ⟨p, d, ps, rfl, hst1⟩
  have HST1 := hid hst1
  have hk1' := hst1.keeps
  have HAD := hid (adds_any ao n cap ss w1 HL.out hr (fun i hi => by
    obtain ⟨b, off, e, hb, q0, q1, q2, q3⟩ := HC.out i hi
    have hbk : ∀ o, w1.cell? ⟨b, o, none⟩ = w.cell? ⟨b, o, none⟩ := fun o => World.cell?_of_block (hk1'.block b hb)
    exact ⟨b, off, e, Nat.lt_of_lt_of_le hb hk1'.size, by rw [hbk]; exact q0, by rw [hbk]; exact q1, by rw [hbk]; exact q2, by rw [hbk]; exact q3⟩))
  have HK1 := hid hk1'
  clear hst1 hk1'
  go_wp2_with fail
  refine HAD.out.mono ?_
  rintro e w2 ⟨a2, c2, rfl, hown2, hb2⟩
  have hst2 : WdSt (fun b => b < w.heap.size ∨ Value.ownBlock (.slice a2 (ss.filter isAdd).length c2) = some b) w2 w2 p d 3 ps (Wd.first k coins 3) := HST1.out.again hb2 (fun b e => by
    rcases e with e | e
    · exact .inl ⟨e, e⟩
    · exact .inr (hown2.lt b e))
  have HB2 : Hid (Below w.heap.size w w2) := ⟨hb2.os.trans HK1.out.os, hb2.tape.trans HK1.out.tape, hb2.output.trans HK1.out.output, Nat.le_trans HK1.out.size hb2.size, fun b hb => (hb2.block b (Nat.lt_of_lt_of_le hb HK1.out.size)).trans (HK1.out.block b hb)⟩
  have HO2 := hid hown2
  have HS2 := hid hst2
  generalize ss.filter isAdd = l at *
  generalize hll : l.length = ln at *
  have HLL := hid hll
  clear hown2 hst2 hb2 hll HST1 HK1 HB HC HL
  go_wp2_with fail
  go_loopw [9] (fun si wr => ∃ (i : Nat) (W : Wd), i ≤ ln + 1 ∧ si = .int .i64 i ∧ Hid (WInv W) ∧ Hid (WdSt (fun b => b < w.heap.size ∨ Value.ownBlock (.slice a2 ln c2) = some b) w2 wr p d 3 ps W)) (fun si _ => ln + 1 - (intOf si).toNat)
  case atStart => exact ⟨0, _, Nat.zero_le _, rfl, HINV, HS2⟩
  case round =>
    obtain ⟨i, W, hi, rfl, Hinv, Hst⟩ := hrel
    clear HS2 HINV
    obtain ⟨wo, hwo⟩ : ∃ wo, wo = wr := ⟨wr, rfl⟩
    subst hwo
    by_cases hle : i ≤ ln
    · go_wp2_with fail
      go_loopw [10] (fun sj wr2 => ∃ j : Nat, j ≤ 3 ∧ sj = .int .i64 j ∧ Hid (Below wo.heap.size wo wr2)) (fun sj _ => 3 - (intOf sj).toNat)
      case atStart => exact ⟨0, Nat.zero_le _, rfl, Below.refl _ _⟩
      case round =>
        obtain ⟨j, hj, rfl, Hb2⟩ := hrel
        have hst := Hst.out.below Hb2.out
        by_cases hj3 : j < 3
        · have HKE := hid (kept_any p d j ps W _ hst hj3 Hinv.out.len (Hinv.out.came j hj3))
          clear hst
          go_wp2_with fail
          refine HKE.out.mono ?_
          rintro e w5 ⟨rfl, hb5⟩
          have HB5 : Hid (Below wo.heap.size wo w5) := Hb2.out.trans (hb5.mono Hb2.out.size)
          clear hb5
          go_wp2_with fail
          go_roundw
          case rel => exact ⟨j + 1, by omega, by go_num, HB5⟩
          case measure => simp [intOf]; omega
        · have HST := hid hst
          clear hst
          by_cases hil : i < ln
          · have hil' : i < l.length := by rw [HLL.out]; exact hil
            obtain ⟨gl, rfl⟩ : ∃ g, a2 = some ⟨g, 0, none⟩ := by
              rcases HO2.out.2 with ⟨_, e⟩ | ⟨g, c', cur, e, _⟩
              · omega
              · cases e; exact ⟨g, rfl⟩
            have hrow : wr.ownsRow w1.heap.size 29 4 (.slice (some ⟨gl, 0, none⟩) ln c2) ln (stCells l) := ownsRow_block HO2.out (fun b e => HST.out.keeps.block b (.inr e))
            have hmem : l.getD i St.zero ∈ l := by simp [List.getD, hil']
            have hg := HRG.out _ hmem
            have q0 := ownsRow_cell hrow (show (stCells l)[i * 4 + 0]? = some _ from (stCells_at l i 0 hil' (by omega)).trans rfl)
            have q1 := ownsRow_cell hrow (show (stCells l)[i * 4 + 1]? = some _ from (stCells_at l i 1 hil' (by omega)).trans rfl)
            have q2 := ownsRow_cell hrow (show (stCells l)[i * 4 + 2]? = some _ from (stCells_at l i 2 hil' (by omega)).trans rfl)
            have q3 := ownsRow_cell hrow (show (stCells l)[i * 4 + 3]? = some _ from (stCells_at l i 3 hil' (by omega)).trans rfl)
            generalize l.getD i St.zero = st at *
            rw [Nat.add_zero] at q0
            have HSP := hid (step_any p d st.kd st.a st.b st.c ps W wr HST.out Hinv.out.ok hg.1 hg.2.1 hg.2.2)
            have hpl := pickN_lt st.a (n := 3) (by omega)
            have hwb := weightN_bd st.c
            clear hrow hmem hg
            go_wp2_with fail
            refine HSP.out.mono ?_
            rintro e w6 ⟨rfl, hpost⟩
            obtain ⟨W', hst', hinv'⟩ := Hinv.out.add hpl hwb.1 hwb.2 hpost
            have HS' := hid hst'
            have HI' := hid hinv'
            clear hpost hst' hinv'
            go_wp2_with fail
            go_roundw
            case rel => exact ⟨i + 1, W', by omega, by go_num, HI', HS'⟩
            case measure => simp [intOf]; omega
          · go_wp2_with fail
            go_roundw
            case rel => exact ⟨i + 1, W, by omega, by go_num, Hinv, HST⟩
            case measure => simp [intOf]; omega
    · go_wp2_with fail
      go_ret
      have hk := Hst.out.keeps
      refine ⟨rfl, ⟨hk.os.trans HB2.out.os, hk.tape.trans HB2.out.tape, hk.output.trans HB2.out.output, Nat.le_trans HB2.out.size hk.size, fun b hb => (hk.block b (.inl hb)).trans (HB2.out.block b hb)⟩⟩

end Go.Proofs.Ytklicjbpjigfdaa
