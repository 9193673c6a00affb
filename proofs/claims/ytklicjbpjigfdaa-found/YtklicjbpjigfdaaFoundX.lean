/- DERIVED. The walk of the statement Found: it returns true, and nothing that was there has turned. -/
import Derived.Test.YtklicjbpjigfdaaFoundW
import Derived.Test.YtklicjbpjigfdaaMe
namespace Go.Proofs.Ytklicjbpjigfdaa
open Go.RowKit

set_option maxHeartbeats 2000000 in
set_option maxRecDepth 100000 in
theorem found_walk (k : Int) (coins : ByteArray) (ao : Option Addr) (n cap : Nat) (q : Int) (ss : List St) (w : World) (hk1 : -9223372036854775808 ≤ k) (hk2 : k ≤ 9223372036854775807) (hq : InRange q) (hcs : coins.size ≤ 140737488355328) (hl : ss.length = n) (hr : n * 32 ≤ 140737488351232) (hrg : ∀ s ∈ ss, InRange s.a ∧ InRange s.b ∧ InRange s.c)
    (hc : ∀ i, i < n → ∃ b off, ao = some ⟨b, off, none⟩ ∧ b < w.heap.size ∧ w.cell? ⟨b, off + i * 4, none⟩ = some (.int .i64 (ss.getD i St.zero).kd) ∧ w.cell? ⟨b, off + i * 4 + 1, none⟩ = some (.int .i64 (ss.getD i St.zero).a) ∧ w.cell? ⟨b, off + i * 4 + 2, none⟩ = some (.int .i64 (ss.getD i St.zero).b) ∧ w.cell? ⟨b, off + i * 4 + 3, none⟩ = some (.int .i64 (ss.getD i St.zero).c)) :
    Calls Try.prog 6 #[.int .i64 k, .string coins, .slice ao n cap, .int .i64 q] w fun e w' => e = .returned (.bool true) ∧ Below w.heap.size w w' := by
  have HB := hid (begin_w k coins w hk1 hk2)
  have HC := hid hc
  have HINV := hid (first_minv k coins hcs)
  have HRG := hid hrg
  have HL := hid hl
  have HQ := hid hq
  clear hc hrg hl hq
  go_enter Try.func6, Try.ntmps6
  go_wp2_with fail
  refine HB.out.mono ?_
  rintro e w1 ⟨p, d, ps, rfl, hst1⟩
  have HST1 := hid hst1
  clear hst1 HB
  go_wp2_with fail
  go_loopw [10] (fun si wr => ∃ (i : Nat) (W : Wd), i ≤ n + 1 ∧ si = .int .i64 i ∧ Hid (MInv W) ∧ Hid (WdSt (fun b => b < w.heap.size) w wr p d 3 ps W)) (fun si _ => n + 1 - (intOf si).toNat)
  case atStart => exact ⟨0, _, Nat.zero_le _, rfl, HINV, HST1⟩
  case round =>
    obtain ⟨i, W, hi, rfl, Hinv, Hst⟩ := hrel
    clear HST1 HINV
    obtain ⟨wo, hwo⟩ : ∃ wo, wo = wr := ⟨wr, rfl⟩
    subst hwo
    by_cases hle : i ≤ n
    · go_wp2_with fail
      go_loopw [11] (fun sj wr2 => ∃ j : Nat, j ≤ 3 ∧ sj = .int .i64 j ∧ Hid (Below wo.heap.size wo wr2)) (fun sj _ => 3 - (intOf sj).toNat)
      case atStart => exact ⟨0, Nat.zero_le _, rfl, Below.refl _ _⟩
      case round =>
        obtain ⟨j, hj, rfl, Hb2⟩ := hrel
        have hst := Hst.out.below Hb2.out
        by_cases hj3 : j < 3
        · have HKE := hid (found_any p d j q ps W _ hst hj3 Hinv.out HQ.out)
          clear hst
          go_wp2_with fail
          refine HKE.out.mono ?_
          rintro e w5 ⟨rfl, hb5⟩
          have HB5 : Hid (Below wo.heap.size wo w5) := Hb2.out.trans (hb5.mono Hb2.out.size)
          clear hb5
          go_wp2_with fail
          go_roundw
          case rel => exact ⟨j + 1, by omega, by go_num, HB5⟩
          case measure => simp [intOf]; omega
        · have HST := hid hst
          have hke := hst.keeps
          clear hst
          by_cases hil : i < n
          · have hil' : i < ss.length := by rw [HL.out]; exact hil
            obtain ⟨bs, off, rfl, hbz, q0, q1, q2, q3⟩ := HC.out i hil
            have hbk : ∀ o, wr.cell? ⟨bs, o, none⟩ = w.cell? ⟨bs, o, none⟩ := fun o => World.cell?_of_block (hke.block bs hbz)
            rw [← hbk] at q0 q1 q2 q3
            have hmem : ss.getD i St.zero ∈ ss := by simp [List.getD, hil']
            have hg := HRG.out _ hmem
            generalize ss.getD i St.zero = st at *
            have HSP := hid (step_any' p d st.kd st.a st.b st.c ps W wr HST.out Hinv.out hg.1 hg.2.1 hg.2.2)
            clear hmem hg hbk hke
            go_wp2_with fail
            refine HSP.out.mono ?_
            rintro e w6 ⟨rfl, W', hst', hinv'⟩
            have HS' := hid hst'
            have HI' := hid hinv'
            clear hst' hinv'
            go_wp2_with fail
            go_roundw
            case rel => exact ⟨i + 1, W', by omega, by go_num, HI', HS'⟩
            case measure => simp [intOf]; omega
          · go_wp2_with fail
            go_roundw
            case rel => exact ⟨i + 1, W, by omega, by go_num, Hinv, HST⟩
            case measure => simp [intOf]; omega
    · go_wp2_with fail
      go_ret
      have hk := Hst.out.keeps
      exact ⟨rfl, ⟨hk.os, hk.tape, hk.output, hk.size, fun b hb => hk.block b hb⟩⟩

end Go.Proofs.Ytklicjbpjigfdaa
