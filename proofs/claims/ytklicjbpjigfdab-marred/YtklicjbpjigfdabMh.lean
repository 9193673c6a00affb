/- DERIVED. A step as a relation of worlds; two worlds side by side in one memory. -/
import Derived.Test.YtklicjbpjigfdabMc
import Derived.Test.YtklicjbpjigfdabNc
import Derived.Test.YtklicjbpjigfdabSpaceQ
namespace Go.Proofs.Ytklicjbpjigfdab
open Go.RowKit
variable {K : Nat → Prop} {w0 : World}

/-- A number comes into sketch i. -/
def AddR (i : Nat) (x : Int) (wt : Nat) (W W' : Wd) : Prop :=
  (268435456 < wsum (W.D.sks.getD i Hd.none).sk.lv + wt ∧ W' = W) ∨
  (wsum (W.D.sks.getD i Hd.none).sk.lv + wt ≤ 268435456 ∧ ∃ cs L' a, DrawOk W cs a ∧ settle (W.D.sks.getD i Hd.none).sk.k cs 0 (addL (W.D.sks.getD i Hd.none) x wt) = some (L', cs.length) ∧ cs.length ≤ 29 ∧ W' = W.took i x wt L' cs.length a)
/-- Sketch j comes into sketch i. -/
def MergeR (i j : Nat) (W W' : Wd) : Prop :=
  (268435456 < wsum (W.D.sks.getD i Hd.none).sk.lv + wsum (W.D.sks.getD j Hd.none).sk.lv ∧ W' = W) ∨
  (wsum (W.D.sks.getD i Hd.none).sk.lv + wsum (W.D.sks.getD j Hd.none).sk.lv ≤ 268435456 ∧ ∃ cs L' a, DrawOk W cs a ∧ settle (mgK (W.D.sks.getD i Hd.none) (W.D.sks.getD j Hd.none)) cs 0 (mgL (W.D.sks.getD i Hd.none) (W.D.sks.getD j Hd.none)) = some (L', cs.length) ∧ cs.length ≤ 230 ∧ W' = W.joined i j L' cs.length a)
def StepR (kd A B C : Int) (W W' : Wd) : Prop := (kd = 1 ∧ MergeR (pickN A 3) (pickN B 3) W W') ∨ (kd ≠ 1 ∧ AddR (pickN A 3) B (weightN C) W W')

theorem AddPost.rel {nw p d i : Nat} {ps : Nat → Nat} {x : Int} {wt : Nat} {W : Wd} {w' : World} (h : AddPost K w0 p d nw i ps x wt W w') : ∃ W', WdSt K w0 w' p d nw ps W' ∧ AddR i x wt W W' := by
  rcases h with ⟨h1, hst⟩ | ⟨hf, cs, L', a, ha, hs, hcs, hst⟩
  · exact ⟨W, hst, .inl ⟨h1, rfl⟩⟩
  · exact ⟨_, hst, .inr ⟨hf, cs, L', a, ha, hs, hcs, rfl⟩⟩
theorem MergePost.rel {nw p d i j : Nat} {ps : Nat → Nat} {W : Wd} {w' : World} (h : MergePost K w0 p d nw i j ps W w') : ∃ W', WdSt K w0 w' p d nw ps W' ∧ MergeR i j W W' := by
  rcases h with ⟨h1, hst⟩ | ⟨hf, cs, L', a, ha, hs, hcs, hst⟩
  · exact ⟨W, hst, .inl ⟨h1, rfl⟩⟩
  · exact ⟨_, hst, .inr ⟨hf, cs, L', a, ha, hs, hcs, rfl⟩⟩
theorem AddR.inv {m i : Nat} {x : Int} {wt : Nat} {W W' : Wd} (h : AddR i x wt W W') (hm : MInvM m W) (hi : i < m) (hw1 : 1 ≤ wt) (hw2 : wt ≤ 268435456) : MInvM m W' := by
  rcases h with ⟨_, rfl⟩ | ⟨hf, cs, L', a, ha, hs, hcs, rfl⟩
  · exact hm
  · exact minv_took hm hi hw1 hw2 hf ha.1 hs hcs
theorem MergeR.inv {m i j : Nat} {W W' : Wd} (h : MergeR i j W W') (hm : MInvM m W) (hi : i < m) (hj : j < m) : MInvM m W' := by
  rcases h with ⟨_, rfl⟩ | ⟨hf, cs, L', a, ha, hs, hcs, rfl⟩
  · exact hm
  · exact minv_joined hm hi hj hf ha.1 hs hcs
theorem StepR.inv {kd A B C : Int} {W W' : Wd} (h : StepR kd A B C W W') (hm : MInv W) : MInv W' := by
  rcases h with ⟨_, h⟩ | ⟨_, h⟩
  · exact h.inv hm (pickN_lt A (by omega)) (pickN_lt B (by omega))
  · exact h.inv hm (pickN_lt A (by omega)) (weightN_bd C).1 (weightN_bd C).2
theorem step_rel (p d : Nat) (kd A B C : Int) (ps : Nat → Nat) (W : Wd) (w : World) (h : WdSt K w0 w p d 3 ps W) (hok : MInv W) (hA : InRange A) (hB : InRange B) (hC : InRange C) :
    Calls Try.prog 31 #[.pointer (some ⟨p, 0, none⟩), .agg #[.int .i64 kd, .int .i64 A, .int .i64 B, .int .i64 C]] w fun e w' => e = .returned (.bool true) ∧ ∃ W', WdSt K w0 w' p d 3 ps W' ∧ StepR kd A B C W W' := by
  by_cases hkd : kd = 1
  · subst hkd
    refine (stepm_any p d A B C ps W w h hok hA hB).mono ?_
    rintro e w' ⟨rfl, hp⟩
    obtain ⟨W', h1, h2⟩ := hp.rel
    exact ⟨rfl, W', h1, .inl ⟨rfl, h2⟩⟩
  · refine (step_any p d kd A B C ps W w h hok.ok hkd hA hC).mono ?_
    rintro e w' ⟨rfl, hp⟩
    obtain ⟨W', h1, h2⟩ := hp.rel
    exact ⟨rfl, W', h1, .inr ⟨hkd, h2⟩⟩

/-- Two worlds side by side: no block is of both; the blocks of K are of neither, and as they were. -/
def Two (K : Nat → Prop) (w0 w : World) (pA dA : Nat) (psA : Nat → Nat) (WA : Wd) (pB dB : Nat) (psB : Nat → Nat) (WB : Wd) : Prop :=
  ∃ oA vsA vxA vwA oB vsB vxB vwB, WdAt oA w pA dA 3 WA psA vsA vxA vwA ∧ WdAt oB w pB dB 3 WB psB vsB vxB vwB ∧ (∀ b, oA b ≠ 0 → oB b = 0) ∧ (∀ b, K b → oA b = 0 ∧ oB b = 0 ∧ b < w0.heap.size) ∧ Keeps K w0 w
theorem Two.swap {w : World} {pA dA pB dB : Nat} {psA psB : Nat → Nat} {WA WB : Wd} (h : Two K w0 w pA dA psA WA pB dB psB WB) : Two K w0 w pB dB psB WB pA dA psA WA := by
  obtain ⟨oA, a1, a2, a3, oB, b1, b2, b3, hA, hB, hd, hk, hK⟩ := h
  exact ⟨oB, b1, b2, b3, oA, a1, a2, a3, hB, hA, fun b hb => Decidable.byContradiction fun hn => hb (hd b hn), fun b e => ⟨(hk b e).2.1, (hk b e).1, (hk b e).2.2⟩, hK⟩
theorem Two.below {w w' : World} {pA dA pB dB : Nat} {psA psB : Nat → Nat} {WA WB : Wd} (h : Two K w0 w pA dA psA WA pB dB psB WB) (hb : Below w.heap.size w w') : Two K w0 w' pA dA psA WA pB dB psB WB := by
  obtain ⟨oA, a1, a2, a3, oB, b1, b2, b3, hA, hB, hd, hk, hK⟩ := h
  exact ⟨oA, a1, a2, a3, oB, b1, b2, b3, hA.below hb, hB.below hb, hd, hk, hK.below hb (fun b e => (hk b e).2.2)⟩
theorem Two.left {w : World} {pA dA pB dB : Nat} {psA psB : Nat → Nat} {WA WB : Wd} (h : Two K w0 w pA dA psA WA pB dB psB WB) : WdSt K w0 w pA dA 3 psA WA := by
  obtain ⟨oA, a1, a2, a3, oB, b1, b2, b3, hA, hB, hd, hk, hK⟩ := h
  exact ⟨oA, a1, a2, a3, hA, fun b e => ⟨(hk b e).1, (hk b e).2.2⟩, hK⟩
theorem Two.keeps {w : World} {pA dA pB dB : Nat} {psA psB : Nat → Nat} {WA WB : Wd} (h : Two K w0 w pA dA psA WA pB dB psB WB) : Keeps K w0 w := h.left.keeps
/-- The left one may take a step. -/
theorem Two.opened {w : World} {pA dA pB dB : Nat} {psA psB : Nat → Nat} {WA WB : Wd} (h : Two K w0 w pA dA psA WA pB dB psB WB) : ∃ K' : Nat → Prop, WdSt K' w w pA dA 3 psA WA ∧ ∀ w' W', WdSt K' w w' pA dA 3 psA W' → Two K w0 w' pA dA psA W' pB dB psB WB := by
  obtain ⟨oA, a1, a2, a3, oB, b1, b2, b3, hA, hB, hd, hk, hK⟩ := h
  refine ⟨fun b => oB b ≠ 0 ∨ K b, ⟨oA, a1, a2, a3, hA, fun b e => ⟨by
    rcases e with e | e
    · exact Decidable.byContradiction fun hn => e (hd b hn)
    · exact (hk b e).1, by
    rcases e with e | e
    · exact hB.lt b e
    · exact Nat.lt_of_lt_of_le (hk b e).2.2 hK.size⟩, Keeps.refl _ _⟩, ?_⟩
  rintro w' W' ⟨oA', c1, c2, c3, hA', hk', hK'⟩
  refine ⟨oA', c1, c2, c3, oB, b1, b2, b3, hA', hB.keep hK'.size (fun b e => hK'.block b (.inl e)), fun b e => Decidable.byContradiction fun hn => e (hk' b (.inl hn)).1, fun b e => ⟨(hk' b (.inr e)).1, (hk b e).2⟩, ?_⟩
  exact ⟨hK'.os.trans hK.os, hK'.tape.trans hK.tape, hK'.output.trans hK.output, Nat.le_trans hK.size hK'.size, fun b e => (hK'.block b (.inr e)).trans (hK.block b e)⟩
/-- A second world is begun beside the first. -/
theorem Two.begun {w1 w2 : World} {pA dA pB dB : Nat} {psA psB : Nat → Nat} {WA WB : Wd} (hA : WdSt K w0 w1 pA dA 3 psA WA) (hB : WdSt (fun b => b < w1.heap.size) w1 w2 pB dB 3 psB WB) : Two K w0 w2 pA dA psA WA pB dB psB WB := by
  obtain ⟨oA, a1, a2, a3, hA, hk, hK⟩ := hA
  obtain ⟨oB, b1, b2, b3, hB, hk', hK'⟩ := hB
  refine ⟨oA, a1, a2, a3, oB, b1, b2, b3, hA.keep hK'.size (fun b e => hK'.block b (hA.lt b e)), hB, fun b e => (hk' b (hA.lt b e)).1, fun b e => ⟨(hk b e).1, (hk' b (Nat.lt_of_lt_of_le (hk b e).2 hK.size)).1, (hk b e).2⟩, ?_⟩
  exact ⟨hK'.os.trans hK.os, hK'.tape.trans hK.tape, hK'.output.trans hK.output, Nat.le_trans hK.size hK'.size, fun b e => (hK'.block b (Nat.lt_of_lt_of_le (hk b e).2 hK.size)).trans (hK.block b e)⟩

end Go.Proofs.Ytklicjbpjigfdab

/- DERIVED. A script that is played: the walk of the statement's own played. -/
namespace Go.Proofs.Ytklicjbpjigfdab
open Go.RowKit
variable {K : Nat → Prop} {w0 : World}

/-- A script is played. -/
def PlayR : List St → Wd → Wd → Prop
  | [], W, W' => W' = W
  | s :: l, W, W' => ∃ W1, StepR s.kd s.a s.b s.c W W1 ∧ PlayR l W1 W'
theorem PlayR.snoc {s : St} : ∀ {l : List St} {W W1 W2 : Wd}, PlayR l W W1 → StepR s.kd s.a s.b s.c W1 W2 → PlayR (l ++ [s]) W W2
  | [], _, _, _, h, hs => by cases h; exact ⟨_, hs, rfl⟩
  | _ :: _, _, _, _, ⟨V, h1, h2⟩, hs => ⟨V, h1, h2.snoc hs⟩

theorem first_minv (k : Int) (coins : ByteArray) (hc : coins.size ≤ 140737488355328) : MInv (Wd.first k coins 3) := by
  have h1 := first_inv k coins hc
  have h2 := first_sinv k coins hc
  have a0 := (h1.came 0 (by omega)).inok.ok.k2
  have a1 := (h1.came 1 (by omega)).inok.ok.k2
  have a2 := (h1.came 2 (by omega)).inok.ok.k2
  have hu : (Wd.first k coins 3).used = 0 := rfl
  refine ⟨h1.len, h1.tape, h1.at_, h1.coins, h1.most, by simp only [sumTo]; omega, h1.came, h2.roomy, h2.tall, fun i hi q => ?_, h1.uns⟩
  have : i = 0 ∨ i = 1 ∨ i = 2 := by omega
  rcases this with rfl | rfl | rfl
  all_goals exact ⟨Nat.zero_le _, Nat.zero_le _⟩

theorem take_step {ss : List St} {i : Nat} (h : i < ss.length) : ss.take (i + 1) = ss.take i ++ [ss.getD i St.zero] := by
  rw [List.take_succ_eq_append_getElem h]; simp [List.getD, h]

/-- The cells of a script that came in. -/
def StepsAt (w : World) (ao : Option Addr) (n : Nat) (ss : List St) : Prop := ∀ i, i < n → ∃ b off, ao = some ⟨b, off, none⟩ ∧ b < w.heap.size ∧ w.cell? ⟨b, off + i * 4, none⟩ = some (.int .i64 (ss.getD i St.zero).kd) ∧ w.cell? ⟨b, off + i * 4 + 1, none⟩ = some (.int .i64 (ss.getD i St.zero).a) ∧ w.cell? ⟨b, off + i * 4 + 2, none⟩ = some (.int .i64 (ss.getD i St.zero).b) ∧ w.cell? ⟨b, off + i * 4 + 3, none⟩ = some (.int .i64 (ss.getD i St.zero).c)
theorem StepsAt.keep {w w' : World} {ao : Option Addr} {n : Nat} {ss : List St} (h : StepsAt w ao n ss) (hs : w.heap.size ≤ w'.heap.size) (hb : ∀ b, b < w.heap.size → w'.heap[b]? = w.heap[b]?) : StepsAt w' ao n ss := by
  intro i hi
  obtain ⟨b, off, e, hz, q0, q1, q2, q3⟩ := h i hi
  have hbk : ∀ o, w'.cell? ⟨b, o, none⟩ = w.cell? ⟨b, o, none⟩ := fun o => World.cell?_of_block (hb b hz)
  exact ⟨b, off, e, Nat.lt_of_lt_of_le hz hs, by rw [hbk]; exact q0, by rw [hbk]; exact q1, by rw [hbk]; exact q2, by rw [hbk]; exact q3⟩

set_option maxHeartbeats 1000000 in
set_option maxRecDepth 100000 in
theorem played_any (k : Int) (coins : ByteArray) (ao : Option Addr) (n cap : Nat) (ss : List St) (w : World) (hk1 : -9223372036854775808 ≤ k) (hk2 : k ≤ 9223372036854775807) (hcs : coins.size ≤ 140737488355328) (hl : ss.length = n) (hr : n * 32 ≤ 140737488351232) (hrg : ∀ s ∈ ss, InRange s.a ∧ InRange s.b ∧ InRange s.c) (hc : StepsAt w ao n ss) :
    Calls Try.prog 8 #[.int .i64 k, .string coins, .slice ao n cap] w fun e w' => ∃ p d ps W, e = .returned (.pointer (some ⟨p, 0, none⟩)) ∧ WdSt (fun b => b < w.heap.size) w w' p d 3 ps W ∧ MInv W ∧ PlayR ss (Wd.first k coins 3) W := by
  have HB := hid (begin_w k coins w hk1 hk2)
  have HC := hid hc
  have HINV := hid (first_minv k coins hcs)
  have HRG := hid hrg
  have HL := hid hl
  clear hc hrg hl
  go_enter Try.func8, Try.ntmps8
  go_wp2_with fail
  refine HB.out.mono ?_
  rintro e w1 ⟨p, d, ps, rfl, hst1⟩
  have HST1 := hid hst1
  clear hst1 HB
  go_wp2_with fail
  go_loopw [8] (fun si wr => ∃ (i : Nat) (W : Wd), i ≤ n ∧ si = .int .i64 i ∧ Hid (MInv W) ∧ Hid (PlayR (ss.take i) (Wd.first k coins 3) W) ∧ Hid (WdSt (fun b => b < w.heap.size) w wr p d 3 ps W)) (fun si _ => n - (intOf si).toNat)
  case atStart => exact ⟨0, _, Nat.zero_le _, rfl, HINV, by rw [List.take_zero]; exact rfl, HST1⟩
  case round =>
    obtain ⟨i, W, hi, rfl, Hinv, Hpl, Hst⟩ := hrel
    clear HST1 HINV
    by_cases hil : i < n
    · have hil' : i < ss.length := by rw [HL.out]; exact hil
      obtain ⟨bs, off, rfl, hbz, q0, q1, q2, q3⟩ := HC.out i hil
      have hke := Hst.out.keeps
      have hbk : ∀ o, wr.cell? ⟨bs, o, none⟩ = w.cell? ⟨bs, o, none⟩ := fun o => World.cell?_of_block (hke.block bs hbz)
      rw [← hbk] at q0 q1 q2 q3
      have hmem : ss.getD i St.zero ∈ ss := by simp [List.getD, hil']
      have hg := HRG.out _ hmem
      have HTK := hid (take_step hil')
      generalize ss.getD i St.zero = st at *
      have HSP := hid (step_rel p d st.kd st.a st.b st.c ps W wr Hst.out Hinv.out hg.1 hg.2.1 hg.2.2)
      clear hmem hg hbk hke
      go_wp2_with fail
      refine HSP.out.mono ?_
      rintro e w6 ⟨rfl, W', hst', hrel'⟩
      have HS' := hid hst'
      have HI' := hid (hrel'.inv Hinv.out)
      have HP' : Hid (PlayR (ss.take (i + 1)) (Wd.first k coins 3) W') := by rw [HTK.out]; exact Hpl.out.snoc hrel'
      clear hst' hrel'
      go_wp2_with fail
      go_roundw
      case rel => exact ⟨i + 1, W', by omega, by go_num, HI', HP', HS'⟩
      case measure => simp [intOf]; omega
    · obtain rfl : i = n := by omega
      go_wp2_with fail
      go_ret
      have h9 := Hpl.out
      rw [← HL.out, List.take_length] at h9
      exact ⟨p, d, ps, W, rfl, Hst.out, Hinv.out, h9⟩

end Go.Proofs.Ytklicjbpjigfdab
