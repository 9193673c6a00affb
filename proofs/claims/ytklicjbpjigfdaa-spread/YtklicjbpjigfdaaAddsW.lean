/- DERIVED. The walk of the statement's own adds. -/
import Derived.Test.YtklicjbpjigfdaaNc
namespace Go.Proofs.Ytklicjbpjigfdaa
open Go.RowKit
variable {K : Nat → Prop} {w0 : World}

set_option maxHeartbeats 1000000 in
set_option maxRecDepth 100000 in
theorem adds_any (ao : Option Addr) (n cap : Nat) (ss : List St) (w : World) (hl : ss.length = n) (hr : n * 32 ≤ 140737488351232) (hc : ∀ i, i < n → ∃ b off, ao = some ⟨b, off, none⟩ ∧ b < w.heap.size ∧ w.cell? ⟨b, off + i * 4, none⟩ = some (.int .i64 (ss.getD i St.zero).kd) ∧ w.cell? ⟨b, off + i * 4 + 1, none⟩ = some (.int .i64 (ss.getD i St.zero).a) ∧ w.cell? ⟨b, off + i * 4 + 2, none⟩ = some (.int .i64 (ss.getD i St.zero).b) ∧ w.cell? ⟨b, off + i * 4 + 3, none⟩ = some (.int .i64 (ss.getD i St.zero).c)) :
    Calls Try.prog 12 #[.slice ao n cap] w fun e w' => ∃ a' c', e = .returned (.slice a' (ss.filter isAdd).length c') ∧ w'.ownsRow w.heap.size 29 4 (.slice a' (ss.filter isAdd).length c') (ss.filter isAdd).length (stCells (ss.filter isAdd)) ∧ Below w.heap.size w w' := by
  obtain ⟨i0, hi0, hz0, hz1, hz2⟩ := info_parts Try.infoStep
  have HC := hid hc
  have HL := hid hl
  clear hc hl
  go_enter Try.func12, Try.ntmps12
  go_wp2_with fail
  go_loopw [3, 4] (fun sv si wr => ∃ (j : Nat) (a' : Option Addr) (m c' : Nat) (xs : List St), j ≤ n ∧ si = .int .i64 j ∧ sv = .slice a' m c' ∧ m ≤ j ∧ Hid (xs = (ss.take j).filter isAdd) ∧ Hid (m = xs.length) ∧ Hid (wr.ownsRow w.heap.size 29 4 (.slice a' m c') m (stCells xs)) ∧ Hid (Below w.heap.size w wr)) (fun _ si _ => n - (intOf si).toNat)
  case atStart => exact ⟨0, none, 0, 0, [], Nat.zero_le _, rfl, rfl, Nat.le_refl _, by simp [Hid], rfl, World.ownsRow_nil _ _ _ _, Below.refl _ _⟩
  case round =>
    obtain ⟨j, a', m, c', xs, hj, rfl, rfl, hmj, Hx, Hm, Ho, Hb⟩ := hrel
    have hwz := Hb.out.size
    by_cases hlt : j < n
    · obtain ⟨b, off, rfl, hbz, q0, q1, q2, q3⟩ := HC.out j hlt
      have r0 := (Hb.out.cell (p := ⟨b, off + j * 4, none⟩) hbz).trans q0
      have r1 := (Hb.out.cell (p := ⟨b, off + j * 4 + 1, none⟩) hbz).trans q1
      have r2 := (Hb.out.cell (p := ⟨b, off + j * 4 + 2, none⟩) hbz).trans q2
      have r3 := (Hb.out.cell (p := ⟨b, off + j * 4 + 3, none⟩) hbz).trans q3
      have HF := hid (filter_step (l := ss) (j := j) (by rw [HL.out]; exact hlt))
      generalize ss.getD j St.zero = st at *
      clear q0 q1 q2 q3
      by_cases hk : st.kd = 1
      · have hk' : (st.kd != 1) = false := by simp [hk]
        have HX2 : Hid (xs = (ss.take (j + 1)).filter isAdd) := by unfold Hid; rw [HF.out, show isAdd st = false from hk', ← Hx.out]; simp
        clear hk
        go_wp2_with fail
        go_roundw
        case rel => exact ⟨j + 1, a', m, c', xs, by omega, by go_num, rfl, by omega, HX2, Hm, Ho, Hb⟩
        case measure => simp [intOf]; omega
      · have hk' : (st.kd != 1) = true := by simp [hk]
        have HX2 : Hid (xs ++ [st] = (ss.take (j + 1)).filter isAdd) := by unfold Hid; rw [HF.out, show isAdd st = true from hk', ← Hx.out]; simp
        go_wp2_with (at_builtin; refine wpList_append_lies _ rfl (.tmp 17) (.tmp 22) 22 rfl w.heap.size 29 i0 (.agg #[.int .i64 0, .int .i64 0, .int .i64 0, .int .i64 0]) 4 32 Try.underlying22 hi0 hz0 hz1 hz2 rfl (by decide) (.slice a' m c') m (stCells xs) rfl (Ho.out.alloc _) ⟨wr.heap.size, 0, none⟩ 1 1 [.int .i64 st.kd, .int .i64 st.a, .int .i64 st.b, .int .i64 st.c] rfl rfl (four_new _ _ _ _ _) (by intro u hu; simp at hu; rcases hu with rfl | rfl | rfl | rfl <;> rfl) (by decide) (by unfold maxLen; omega) (by omega) (by simp; omega) (wr.heap.size + 1) (by simp) ?_; intro g2 cap2 w1 hown1 hgrow1 hat1 hlt1)
        go_roundw
        case rel =>
          refine ⟨j + 1, some ⟨g2, 0, none⟩, m + 1, cap2, xs ++ [st], by omega, by go_num, rfl, by omega, HX2, by rw [List.length_append, ← Hm.out]; rfl, ?_, ?_⟩
          · rw [stCells_snoc]; exact hown1
          · refine (Hb.out.alloc hwz _).grown hgrow1 (by simp; omega) (fun q hq => (Ho.out.lt q hq).1)
        case measure => simp [intOf]; omega
    · have HE : Hid (xs = ss.filter isAdd) := by have := Hx.out; rw [List.take_of_length_le (by rw [HL.out]; omega)] at this; exact this
      go_wp2_with fail
      go_ret
      refine ⟨a', c', ?_, ?_, Hb.out⟩
      · rw [← HE.out, ← Hm.out]; rfl
      · rw [← HE.out]; have := Ho.out; rw [Hm.out] at this; exact this

end Go.Proofs.Ytklicjbpjigfdaa
