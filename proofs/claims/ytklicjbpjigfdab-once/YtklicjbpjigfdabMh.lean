/- DERIVED. A step as a relation of worlds; two worlds side by side in one memory. -/
import Derived.Test.YtklicjbpjigfdabMc
import Derived.Test.YtklicjbpjigfdabNc
import Derived.Test.YtklicjbpjigfdabSpaceQ
namespace Go.Proofs.Ytklicjbpjigfdab
open Go.RowKit
variable {K : Nat → Prop} {w0 : World}

/-- A number comes into sketch i. -/
def AddR (i : Nat) (x : Int) (wt : Nat) (W W' : Wd) : Prop :=
  (268435456 < wsum (W.D.sks.getD i Hd.none).sk.lv + wt ∧ W' = W) ∨
  (wsum (W.D.sks.getD i Hd.none).sk.lv + wt ≤ 268435456 ∧ ∃ cs L' a, DrawOk W cs a ∧ settle (W.D.sks.getD i Hd.none).sk.k cs 0 (addL (W.D.sks.getD i Hd.none) x wt) = some (L', cs.length) ∧ cs.length ≤ 29 ∧ W' = W.took i x wt L' cs.length a)
/-- Sketch j comes into sketch i. -/
def MergeR (i j : Nat) (W W' : Wd) : Prop :=
  (268435456 < wsum (W.D.sks.getD i Hd.none).sk.lv + wsum (W.D.sks.getD j Hd.none).sk.lv ∧ W' = W) ∨
  (wsum (W.D.sks.getD i Hd.none).sk.lv + wsum (W.D.sks.getD j Hd.none).sk.lv ≤ 268435456 ∧ ∃ cs L' a, DrawOk W cs a ∧ settle (mgK (W.D.sks.getD i Hd.none) (W.D.sks.getD j Hd.none)) cs 0 (mgL (W.D.sks.getD i Hd.none) (W.D.sks.getD j Hd.none)) = some (L', cs.length) ∧ cs.length ≤ 230 ∧ W' = W.joined i j L' cs.length a)
def StepR (kd A B C : Int) (W W' : Wd) : Prop := (kd = 1 ∧ MergeR (pickN A 3) (pickN B 3) W W') ∨ (kd ≠ 1 ∧ AddR (pickN A 3) B (weightN C) W W')

theorem AddPost.rel {nw p d i : Nat} {ps : Nat → Nat} {x : Int} {wt : Nat} {W : Wd} {w' : World} (h : AddPost K w0 p d nw i ps x wt W w') : ∃ W', WdSt K w0 w' p d nw ps W' ∧ AddR i x wt W W' := by
  rcases h with ⟨h1, hst⟩ | ⟨hf, cs, L', a, ha, hs, hcs, hst⟩
  · exact ⟨W, hst, .inl ⟨h1, rfl⟩⟩
  · exact ⟨_, hst, .inr ⟨hf, cs, L', a, ha, hs, hcs, rfl⟩⟩
theorem MergePost.rel {nw p d i j : Nat} {ps : Nat → Nat} {W : Wd} {w' : World} (h : MergePost K w0 p d nw i j ps W w') : ∃ W', WdSt K w0 w' p d nw ps W' ∧ MergeR i j W W' := by
  rcases h with ⟨h1, hst⟩ | ⟨hf, cs, L', a, ha, hs, hcs, hst⟩
  · exact ⟨W, hst, .inl ⟨h1, rfl⟩⟩
  · exact ⟨_, hst, .inr ⟨hf, cs, L', a, ha, hs, hcs, rfl⟩⟩
theorem AddR.inv {m i : Nat} {x : Int} {wt : Nat} {W W' : Wd} (h : AddR i x wt W W') (hm : MInvM m W) (hi : i < m) (hw1 : 1 ≤ wt) (hw2 : wt ≤ 268435456) : MInvM m W' := by
  rcases h with ⟨_, rfl⟩ | ⟨hf, cs, L', a, ha, hs, hcs, rfl⟩
  · exact hm
  · exact minv_took hm hi hw1 hw2 hf ha.1 hs hcs
theorem MergeR.inv {m i j : Nat} {W W' : Wd} (h : MergeR i j W W') (hm : MInvM m W) (hi : i < m) (hj : j < m) : MInvM m W' := by
  rcases h with ⟨_, rfl⟩ | ⟨hf, cs, L', a, ha, hs, hcs, rfl⟩
  · exact hm
  · exact minv_joined hm hi hj hf ha.1 hs hcs
theorem StepR.inv {kd A B C : Int} {W W' : Wd} (h : StepR kd A B C W W') (hm : MInv W) : MInv W' := by
  rcases h with ⟨_, h⟩ | ⟨_, h⟩
  · exact h.inv hm (pickN_lt A (by omega)) (pickN_lt B (by omega))
  · exact h.inv hm (pickN_lt A (by omega)) (weightN_bd C).1 (weightN_bd C).2
theorem step_rel (p d : Nat) (kd A B C : Int) (ps : Nat → Nat) (W : Wd) (w : World) (h : WdSt K w0 w p d 3 ps W) (hok : MInv W) (hA : InRange A) (hB : InRange B) (hC : InRange C) :
    Calls Try.prog 31 #[.pointer (some ⟨p, 0, none⟩), .agg #[.int .i64 kd, .int .i64 A, .int .i64 B, .int .i64 C]] w fun e w' => e = .returned (.bool true) ∧ ∃ W', WdSt K w0 w' p d 3 ps W' ∧ StepR kd A B C W W' := by
  by_cases hkd : kd = 1
  · subst hkd
    refine (stepm_any p d A B C ps W w h hok hA hB).mono ?_
    rintro e w' ⟨rfl, hp⟩
    obtain ⟨W', h1, h2⟩ := hp.rel
    exact ⟨rfl, W', h1, .inl ⟨rfl, h2⟩⟩
  · refine (step_any p d kd A B C ps W w h hok.ok hkd hA hC).mono ?_
    rintro e w' ⟨rfl, hp⟩
    obtain ⟨W', h1, h2⟩ := hp.rel
    exact ⟨rfl, W', h1, .inr ⟨hkd, h2⟩⟩

/-- Two worlds side by side: no block is of both; the blocks of K are of neither, and as they were. -/
def Two (K : Nat → Prop) (w0 w : World) (pA dA : Nat) (psA : Nat → Nat) (WA : Wd) (pB dB : Nat) (psB : Nat → Nat) (WB : Wd) : Prop :=
  ∃ oA vsA vxA vwA oB vsB vxB vwB, WdAt oA w pA dA 3 WA psA vsA vxA vwA ∧ WdAt oB w pB dB 3 WB psB vsB vxB vwB ∧ (∀ b, oA b ≠ 0 → oB b = 0) ∧ (∀ b, K b → oA b = 0 ∧ oB b = 0 ∧ b < w0.heap.size) ∧ Keeps K w0 w
theorem Two.swap {w : World} {pA dA pB dB : Nat} {psA psB : Nat → Nat} {WA WB : Wd} (h : Two K w0 w pA dA psA WA pB dB psB WB) : Two K w0 w pB dB psB WB pA dA psA WA := by
  obtain ⟨oA, a1, a2, a3, oB, b1, b2, b3, hA, hB, hd, hk, hK⟩ := h
  exact ⟨oB, b1, b2, b3, oA, a1, a2, a3, hB, hA, fun b hb => Decidable.byContradiction fun hn => hb (hd b hn), fun b e => ⟨(hk b e).2.1, (hk b e).1, (hk b e).2.2⟩, hK⟩
theorem Two.below {w w' : World} {pA dA pB dB : Nat} {psA psB : Nat → Nat} {WA WB : Wd} (h : Two K w0 w pA dA psA WA pB dB psB WB) (hb : Below w.heap.size w w') : Two K w0 w' pA dA psA WA pB dB psB WB := by
  obtain ⟨oA, a1, a2, a3, oB, b1, b2, b3, hA, hB, hd, hk, hK⟩ := h
  exact ⟨oA, a1, a2, a3, oB, b1, b2, b3, hA.below hb, hB.below hb, hd, hk, hK.below hb (fun b e => (hk b e).2.2)⟩
theorem Two.left {w : World} {pA dA pB dB : Nat} {psA psB : Nat → Nat} {WA WB : Wd} (h : Two K w0 w pA dA psA WA pB dB psB WB) : WdSt K w0 w pA dA 3 psA WA := by
  obtain ⟨oA, a1, a2, a3, oB, b1, b2, b3, hA, hB, hd, hk, hK⟩ := h
  exact ⟨oA, a1, a2, a3, hA, fun b e => ⟨(hk b e).1, (hk b e).2.2⟩, hK⟩
theorem Two.keeps {w : World} {pA dA pB dB : Nat} {psA psB : Nat → Nat} {WA WB : Wd} (h : Two K w0 w pA dA psA WA pB dB psB WB) : Keeps K w0 w := h.left.keeps
/-- The left one may take a step. -/
theorem Two.opened {w : World} {pA dA pB dB : Nat} {psA psB : Nat → Nat} {WA WB : Wd} (h : Two K w0 w pA dA psA WA pB dB psB WB) : ∃ K' : Nat → Prop, WdSt K' w w pA dA 3 psA WA ∧ ∀ w' W', WdSt K' w w' pA dA 3 psA W' → Two K w0 w' pA dA psA W' pB dB psB WB := by
  obtain ⟨oA, a1, a2, a3, oB, b1, b2, b3, hA, hB, hd, hk, hK⟩ := h
  refine ⟨fun b => oB b ≠ 0 ∨ K b, ⟨oA, a1, a2, a3, hA, fun b e => ⟨by
    rcases e with e | e
    · exact Decidable.byContradiction fun hn => e (hd b hn)
    · exact (hk b e).1, by
    rcases e with e | e
    · exact hB.lt b e
    · exact Nat.lt_of_lt_of_le (hk b e).2.2 hK.size⟩, Keeps.refl _ _⟩, ?_⟩
  rintro w' W' ⟨oA', c1, c2, c3, hA', hk', hK'⟩
  refine ⟨oA', c1, c2, c3, oB, b1, b2, b3, hA', hB.keep hK'.size (fun b e => hK'.block b (.inl e)), fun b e => Decidable.byContradiction fun hn => e (hk' b (.inl hn)).1, fun b e => ⟨(hk' b (.inr e)).1, (hk b e).2⟩, ?_⟩
  exact ⟨hK'.os.trans hK.os, hK'.tape.trans hK.tape, hK'.output.trans hK.output, Nat.le_trans hK.size hK'.size, fun b e => (hK'.block b (.inr e)).trans (hK.block b e)⟩
/-- A second world is begun beside the first. -/
theorem Two.begun {w1 w2 : World} {pA dA pB dB : Nat} {psA psB : Nat → Nat} {WA WB : Wd} (hA : WdSt K w0 w1 pA dA 3 psA WA) (hB : WdSt (fun b => b < w1.heap.size) w1 w2 pB dB 3 psB WB) : Two K w0 w2 pA dA psA WA pB dB psB WB := by
  obtain ⟨oA, a1, a2, a3, hA, hk, hK⟩ := hA
  obtain ⟨oB, b1, b2, b3, hB, hk', hK'⟩ := hB
  refine ⟨oA, a1, a2, a3, oB, b1, b2, b3, hA.keep hK'.size (fun b e => hK'.block b (hA.lt b e)), hB, fun b e => (hk' b (hA.lt b e)).1, fun b e => ⟨(hk b e).1, (hk' b (Nat.lt_of_lt_of_le (hk b e).2 hK.size)).1, (hk b e).2⟩, ?_⟩
  exact ⟨hK'.os.trans hK.os, hK'.tape.trans hK.tape, hK'.output.trans hK.output, Nat.le_trans hK.size hK'.size, fun b e => (hK'.block b (Nat.lt_of_lt_of_le (hk b e).2 hK.size)).trans (hK.block b e)⟩

end Go.Proofs.Ytklicjbpjigfdab

/- DERIVED. A script that is played: the walk of the statement's own played. -/
namespace Go.Proofs.Ytklicjbpjigfdab
open Go.RowKit
variable {K : Nat → Prop} {w0 : World}

/-- A script is played. -/
def PlayR : List St → Wd → Wd → Prop
  | [], W, W' => W' = W
  | s :: l, W, W' => ∃ W1, StepR s.kd s.a s.b s.c W W1 ∧ PlayR l W1 W'
theorem PlayR.snoc {s : St} : ∀ {l : List St} {W W1 W2 : Wd}, PlayR l W W1 → StepR s.kd s.a s.b s.c W1 W2 → PlayR (l ++ [s]) W W2
  | [], _, _, _, h, hs => by cases h; exact ⟨_, hs, rfl⟩
  | _ :: _, _, _, _, ⟨V, h1, h2⟩, hs => ⟨V, h1, h2.snoc hs⟩

theorem first_minv (k : Int) (coins : ByteArray) (hc : coins.size ≤ 140737488355328) : MInv (Wd.first k coins 3) := by
  have h1 := first_inv k coins hc
  have h2 := first_sinv k coins hc
  have a0 := (h1.came 0 (by omega)).inok.ok.k2
  have a1 := (h1.came 1 (by omega)).inok.ok.k2
  have a2 := (h1.came 2 (by omega)).inok.ok.k2
  have hu : (Wd.first k coins 3).used = 0 := rfl
  refine ⟨h1.len, h1.tape, h1.at_, h1.coins, h1.most, by simp only [sumTo]; omega, h1.came, h2.roomy, h2.tall, fun i hi q => ?_, h1.uns⟩
  have : i = 0 ∨ i = 1 ∨ i = 2 := by omega
  rcases this with rfl | rfl | rfl
  all_goals exact ⟨Nat.zero_le _, Nat.zero_le _⟩

theorem take_step {ss : List St} {i : Nat} (h : i < ss.length) : ss.take (i + 1) = ss.take i ++ [ss.getD i St.zero] := by
  rw [List.take_succ_eq_append_getElem h]; simp [List.getD, h]

/-- The cells of a script that came in. -/
def StepsAt (w : World) (ao : Option Addr) (n : Nat) (ss : List St) : Prop := ∀ i, i < n → ∃ b off, ao = some ⟨b, off, none⟩ ∧ b < w.heap.size ∧ w.cell? ⟨b, off + i * 4, none⟩ = some (.int .i64 (ss.getD i St.zero).kd) ∧ w.cell? ⟨b, off + i * 4 + 1, none⟩ = some (.int .i64 (ss.getD i St.zero).a) ∧ w.cell? ⟨b, off + i * 4 + 2, none⟩ = some (.int .i64 (ss.getD i St.zero).b) ∧ w.cell? ⟨b, off + i * 4 + 3, none⟩ = some (.int .i64 (ss.getD i St.zero).c)
theorem StepsAt.keep {w w' : World} {ao : Option Addr} {n : Nat} {ss : List St} (h : StepsAt w ao n ss) (hs : w.heap.size ≤ w'.heap.size) (hb : ∀ b, b < w.heap.size → w'.heap[b]? = w.heap[b]?) : StepsAt w' ao n ss := by
  intro i hi
  obtain ⟨b, off, e, hz, q0, q1, q2, q3⟩ := h i hi
  have hbk : ∀ o, w'.cell? ⟨b, o, none⟩ = w.cell? ⟨b, o, none⟩ := fun o => World.cell?_of_block (hb b hz)
  exact ⟨b, off, e, Nat.lt_of_lt_of_le hz hs, by rw [hbk]; exact q0, by rw [hbk]; exact q1, by rw [hbk]; exact q2, by rw [hbk]; exact q3⟩

set_option maxHeartbeats 1000000 in
set_option maxRecDepth 100000 in
theorem played_any (k : Int) (coins : ByteArray) (ao : Option Addr) (n cap : Nat) (ss : List St) (w : World) (hk1 : -9223372036854775808 ≤ k) (hk2 : k ≤ 9223372036854775807) (hcs : coins.size ≤ 140737488355328) (hl : ss.length = n) (hr : n * 32 ≤ 140737488351232) (hrg : ∀ s ∈ ss, InRange s.a ∧ InRange s.b ∧ InRange s.c) (hc : StepsAt w ao n ss) :
    Calls Try.prog 8 #[.int .i64 k, .string coins, .slice ao n cap] w fun e w' => ∃ p d ps W, e = .returned (.pointer (some ⟨p, 0, none⟩)) ∧ WdSt (fun b => b < w.heap.size) w w' p d 3 ps W ∧ MInv W ∧ PlayR ss (Wd.first k coins 3) W := by
  have HB := hid (begin_w k coins w hk1 hk2)
  have HC := hid hc
  have HINV := hid (first_minv k coins hcs)
  have HRG := hid hrg
  have HL := hid hl
  clear hc hrg hl
  go_enter Try.func8, Try.ntmps8
  go_wp2_with fail
  refine HB.out.mono ?_
  rintro e w1 ⟨p, d, ps, rfl, hst1⟩
  have HST1 := hid hst1
  clear hst1 HB
  go_wp2_with fail
  go_loopw [8] (fun si wr => ∃ (i : Nat) (W : Wd), i ≤ n ∧ si = .int .i64 i ∧ Hid (MInv W) ∧ Hid (PlayR (ss.take i) (Wd.first k coins 3) W) ∧ Hid (WdSt (fun b => b < w.heap.size) w wr p d 3 ps W)) (fun si _ => n - (intOf si).toNat)
  case atStart => exact ⟨0, _, Nat.zero_le _, rfl, HINV, by rw [List.take_zero]; exact rfl, HST1⟩
  case round =>
    obtain ⟨i, W, hi, rfl, Hinv, Hpl, Hst⟩ := hrel
    clear HST1 HINV
    by_cases hil : i < n
    · have hil' : i < ss.length := by rw [HL.out]; exact hil
      obtain ⟨bs, off, rfl, hbz, q0, q1, q2, q3⟩ := HC.out i hil
      have hke := Hst.out.keeps
      have hbk : ∀ o, wr.cell? ⟨bs, o, none⟩ = w.cell? ⟨bs, o, none⟩ := fun o => World.cell?_of_block (hke.block bs hbz)
      rw [← hbk] at q0 q1 q2 q3
      have hmem : ss.getD i St.zero ∈ ss := by simp [List.getD, hil']
      have hg := HRG.out _ hmem
      have HTK := hid (take_step hil')
      generalize ss.getD i St.zero = st at *
      have HSP := hid (step_rel p d st.kd st.a st.b st.c ps W wr Hst.out Hinv.out hg.1 hg.2.1 hg.2.2)
      clear hmem hg hbk hke
      go_wp2_with fail
      refine HSP.out.mono ?_
      rintro e w6 ⟨rfl, W', hst', hrel'⟩
      have HS' := hid hst'
      have HI' := hid (hrel'.inv Hinv.out)
      have HP' : Hid (PlayR (ss.take (i + 1)) (Wd.first k coins 3) W') := by rw [HTK.out]; exact Hpl.out.snoc hrel'
      clear hst' hrel'
      go_wp2_with fail
      go_roundw
      case rel => exact ⟨i + 1, W', by omega, by go_num, HI', HP', HS'⟩
      case measure => simp [intOf]; omega
    · obtain rfl : i = n := by omega
      go_wp2_with fail
      go_ret
      have h9 := Hpl.out
      rw [← HL.out, List.take_length] at h9
      exact ⟨p, d, ps, W, rfl, Hst.out, Hinv.out, h9⟩

end Go.Proofs.Ytklicjbpjigfdab

/- DERIVED. Plain mathematics: how many items are on which level, and the times, hang neither on the numbers nor on the coins. -/
namespace Go.Proofs.Ytklicjbpjigfdab
open Go.RowKit

/-- The shape of levels. -/
def sh (L : List Lvl) : List (Nat × Nat) := L.map fun l => (l.items.length, l.times)
theorem sh_cons (l : Lvl) (L : List Lvl) : sh (l :: L) = (l.items.length, l.times) :: sh L := rfl
theorem sh_len {L T : List Lvl} (h : sh L = sh T) : L.length = T.length := by
  have := congrArg List.length h
  simpa [sh] using this
theorem sh_sums : ∀ {L T : List Lvl}, sh L = sh T → wsum L = wsum T ∧ nsum L = nsum T ∧ esum L = esum T ∧ ssum L = ssum T ∧ timesOf L = timesOf T
  | [], [], _ => ⟨rfl, rfl, rfl, rfl, rfl⟩
  | [], _ :: _, h => by simp [sh] at h
  | _ :: _, [], h => by simp [sh] at h
  | l :: L, t :: T, h => by
    rw [sh_cons, sh_cons] at h
    simp only [List.cons.injEq, Prod.mk.injEq] at h
    obtain ⟨⟨h1, h2⟩, h3⟩ := h
    obtain ⟨a1, a2, a3, a4, a5⟩ := sh_sums h3
    refine ⟨by simp only [wsum, h1, a1], by simp only [nsum, h1, a2], by simp only [esum, h2, a3], by simp only [ssum, h2, a4], ?_⟩
    unfold timesOf at *
    rw [List.map_cons, List.map_cons, a5, h2]
theorem sh_crowd {k n : Nat} : ∀ {h : Nat} {L T : List Lvl}, sh L = sh T → crowd k n h L = crowd k n h T
  | _, [], [], _ => rfl
  | _, [], _ :: _, h => by simp [sh] at h
  | _, _ :: _, [], h => by simp [sh] at h
  | j, l :: L, t :: T, h => by
    rw [sh_cons, sh_cons] at h
    simp only [List.cons.injEq, Prod.mk.injEq] at h
    rw [crowd, crowd, h.1.1, sh_crowd h.2]
theorem sh_toThin {k : Nat} {L T : List Lvl} (h : sh L = sh T) : toThinL k L = toThinL k T := by
  unfold toThinL
  rw [(sh_sums h).2.1, sh_len h, sh_crowd h]
theorem sh_thin : ∀ {L T : List Lvl} {h : Nat} {c c' : Bool}, sh L = sh T → h < L.length → sh (thinL L h c) = sh (thinL T h c')
  | [], _, _, _, _, _, hh => by simp at hh
  | _ :: _, [], _, _, _, h, _ => by simp [sh] at h
  | [l], [t], 0, c, c', h, _ => by
    rw [sh_cons, sh_cons] at h
    simp only [List.cons.injEq, Prod.mk.injEq] at h
    rw [thinL_one, thinL_one]
    simp [sh, jn_length, upOf_length, h.1.1, h.1.2]
  | [l], _ :: _ :: _, _, _, _, h, _ => by simp [sh] at h
  | _ :: _ :: _, [t], _, _, _, h, _ => by simp [sh] at h
  | l :: m :: L, t :: u :: T, 0, c, c', h, _ => by
    rw [sh_cons, sh_cons, sh_cons, sh_cons] at h
    simp only [List.cons.injEq, Prod.mk.injEq] at h
    rw [thinL_two, thinL_two, sh_cons, sh_cons, sh_cons, sh_cons, h.2.2]
    simp [jn_length, upOf_length, h.1.1, h.1.2, h.2.1.1, h.2.1.2]
  | l :: L, t :: T, j + 1, c, c', h, hh => by
    rw [sh_cons, sh_cons] at h
    simp only [List.cons.injEq, Prod.mk.injEq] at h
    rw [thinL_succ, thinL_succ, sh_cons, sh_cons, sh_thin (c := c) (c' := c') h.2 (by simpa using hh), h.1.1, h.1.2]
theorem sh_settle {k : Nat} : ∀ {cs cs' : List Bool} {u : Nat} {L T L' T' : List Lvl}, sh L = sh T → settle k cs u L = some (L', u + cs.length) → settle k cs' u T = some (T', u + cs'.length) → sh L' = sh T' ∧ cs.length = cs'.length := by
  intro cs
  induction cs with
  | nil =>
    intro cs' u L T L' T' h h1 h2
    simp only [settle] at h1
    split at h1
    · rename_i hn
      simp at h1
      rw [settle_done (by rw [← sh_toThin h]; exact hn)] at h2
      simp at h2
      rw [← h1, ← h2.1]
      exact ⟨h, by rw [h2.2]⟩
    · simp at h1
  | cons c cs ih =>
    intro cs' u L T L' T' h h1 h2
    simp only [settle] at h1
    split at h1
    · simp at h1
    · rename_i r hr
      have hr' : toThinL k T = some r := by rw [← sh_toThin h]; exact hr
      cases cs' with
      | nil => rw [settle_short hr'] at h2; simp at h2
      | cons c' cs' =>
        rw [settle_step hr'] at h2
        have e1 : u + (c :: cs).length = u + 1 + cs.length := by simp; omega
        have e2 : u + (c' :: cs').length = u + 1 + cs'.length := by simp; omega
        rw [e1] at h1
        rw [e2] at h2
        have := ih (sh_thin (c := c) (c' := c') h (toThinL_some hr).1) h1 h2
        exact ⟨this.1, by simp [this.2]⟩
theorem sh_setItems (L : List Lvl) (h : Nat) (X : List Int) : sh (setItems L h X) = (sh L).set h (X.length, (L.getD h Lvl.none).times) := by
  unfold sh setItems
  rw [List.map_set]
theorem sh_getD {L T : List Lvl} (h : sh L = sh T) (j : Nat) : (L.getD j Lvl.none).items.length = (T.getD j Lvl.none).items.length ∧ (L.getD j Lvl.none).times = (T.getD j Lvl.none).times := by
  have e : ∀ M : List Lvl, (sh M).getD j (0, 0) = ((M.getD j Lvl.none).items.length, (M.getD j Lvl.none).times) := by
    intro M
    unfold sh
    by_cases hj : j < M.length
    · simp [List.getD, hj]
    · simp [List.getD, hj, Lvl.none]
  have h1 := e L
  rw [h, e T] at h1
  simp only [Prod.mk.injEq] at h1
  exact ⟨h1.1.symm, h1.2.symm⟩
theorem sh_at1 {L T : List Lvl} (h : sh L = sh T) (j : Nat) : sh (at1 L j) = sh (at1 T j) := by
  unfold at1
  rw [sh_len h]
  split
  · have e : ∀ M : List Lvl, sh (M ++ [Lvl.none]) = sh M ++ [(0, 0)] := fun M => by simp [sh, Lvl.none]
    rw [e, e, h]
  · exact h
theorem sh_bit {L T : List Lvl} (h : sh L = sh T) (x y : Int) (w j : Nat) : sh (bit1 x w L j) = sh (bit1 y w T j) := by
  unfold bit1
  split
  · rw [sh_setItems, sh_setItems, h, jn_length, jn_length, (sh_getD h j).1, (sh_getD h j).2]; simp
  · exact h
theorem sh_with {x y : Int} : ∀ {f w j : Nat} {L T : List Lvl}, sh L = sh T → sh (withFrom x f w j L) = sh (withFrom y f w j T) := by
  intro f
  induction f with
  | zero => intro w j L T h; exact h
  | succ f ih =>
    intro w j L T h
    by_cases h0 : w = 0
    · subst h0; rw [withFrom_zero, withFrom_zero]; exact h
    · rw [withFrom_step (by omega), withFrom_step (by omega)]
      exact ih (sh_bit (sh_at1 h j) x y w j)
theorem sh_merge : ∀ {T T' L L' : List Lvl}, sh L = sh L' → sh T = sh T' → sh (mergeL L T) = sh (mergeL L' T')
  | [], [], L, L', h, _ => by rw [mergeL_nil, mergeL_nil]; exact h
  | [], _ :: _, _, _, _, h => by simp [sh] at h
  | _ :: _, [], _, _, _, h => by simp [sh] at h
  | t :: T, t' :: T', [], [], _, h => by
    rw [sh_cons, sh_cons] at h
    simp only [List.cons.injEq, Prod.mk.injEq] at h
    rw [mergeL, mergeL, sh_cons, sh_cons, sh_merge (L := []) (L' := []) rfl h.2]
    simp [jn_length, h.1.1, h.1.2]
  | _ :: _, _ :: _, [], _ :: _, h, _ => by simp [sh] at h
  | _ :: _, _ :: _, _ :: _, [], h, _ => by simp [sh] at h
  | t :: T, t' :: T', l :: L, l' :: L', h, h2 => by
    rw [sh_cons, sh_cons] at h h2
    simp only [List.cons.injEq, Prod.mk.injEq] at h h2
    rw [mergeL, mergeL, sh_cons, sh_cons, sh_merge h.2 h2.2]
    simp [jn_length, h.1.1, h.1.2, h2.1.1, h2.1.2]

/-- Two worlds are alike in shape. -/
structure Alike (A B : Wd) : Prop where
  used : A.used = B.used
  lv : ∀ i, i < 3 → sh (A.D.sks.getD i Hd.none).sk.lv = sh (B.D.sks.getD i Hd.none).sk.lv
  k : ∀ i, i < 3 → (A.D.sks.getD i Hd.none).sk.k = (B.D.sks.getD i Hd.none).sk.k
theorem sks_set {W : Wd} {i : Nat} {hd : Hd} (hi : i < W.D.sks.length) (j : Nat) : (W.D.sks.set i hd).getD j Hd.none = if j = i then hd else W.D.sks.getD j Hd.none := by
  by_cases e : j = i
  · subst e
    rw [if_pos rfl]
    simp only [List.getD]
    rw [List.getElem?_set_self hi]
    rfl
  · rw [if_neg e]
    simp only [List.getD]
    rw [List.getElem?_set_ne (Ne.symm e)]
theorem Alike.add {A B A' B' : Wd} {i wt : Nat} {x y : Int} (h : Alike A B) (hA : MInv A) (hB : MInv B) (hi : i < 3) (ra : AddR i x wt A A') (rb : AddR i y wt B B') : Alike A' B' := by
  have hw := (sh_sums (h.lv i hi)).1
  rcases ra with ⟨fa, rfl⟩ | ⟨fa, cs, L', a, _, sa, _, rfl⟩
  · rcases rb with ⟨_, rfl⟩ | ⟨fb, _⟩
    · exact h
    · omega
  · rcases rb with ⟨fb, _⟩ | ⟨fb, cs', T', a', _, sb, _, rfl⟩
    · omega
    · rw [h.k i hi] at sa
      have e := sh_settle (u := 0) (sh_with (x := x) (y := y) (f := 29) (w := wt) (j := 0) (h.lv i hi)) (by rw [Nat.zero_add]; exact sa) (by rw [Nat.zero_add]; exact sb)
      refine ⟨?_, fun j hj => ?_, fun j hj => ?_⟩
      · show A.used + cs.length = B.used + cs'.length
        rw [h.used, e.2]
      · show sh ((A.D.sks.set i _).getD j Hd.none).sk.lv = sh ((B.D.sks.set i _).getD j Hd.none).sk.lv
        rw [sks_set (by rw [hA.len]; exact hi), sks_set (by rw [hB.len]; exact hi)]
        by_cases ej : j = i
        · rw [if_pos ej, if_pos ej]; exact e.1
        · rw [if_neg ej, if_neg ej]; exact h.lv j hj
      · show ((A.D.sks.set i _).getD j Hd.none).sk.k = ((B.D.sks.set i _).getD j Hd.none).sk.k
        rw [sks_set (by rw [hA.len]; exact hi), sks_set (by rw [hB.len]; exact hi)]
        by_cases ej : j = i
        · rw [if_pos ej, if_pos ej]; exact h.k i hi
        · rw [if_neg ej, if_neg ej]; exact h.k j hj
theorem Alike.merge {A B A' B' : Wd} {i j : Nat} (h : Alike A B) (hA : MInv A) (hB : MInv B) (hi : i < 3) (hj : j < 3) (ra : MergeR i j A A') (rb : MergeR i j B B') : Alike A' B' := by
  have hw := (sh_sums (h.lv i hi)).1
  have hw2 := (sh_sums (h.lv j hj)).1
  have hk : mgK (A.D.sks.getD i Hd.none) (A.D.sks.getD j Hd.none) = mgK (B.D.sks.getD i Hd.none) (B.D.sks.getD j Hd.none) := by unfold mgK; rw [h.k i hi, h.k j hj]
  rcases ra with ⟨fa, rfl⟩ | ⟨fa, cs, L', a, _, sa, _, rfl⟩
  · rcases rb with ⟨_, rfl⟩ | ⟨fb, _⟩
    · exact h
    · omega
  · rcases rb with ⟨fb, _⟩ | ⟨fb, cs', T', a', _, sb, _, rfl⟩
    · omega
    · rw [hk] at sa
      have e := sh_settle (u := 0) (sh_merge (h.lv i hi) (h.lv j hj)) (by rw [Nat.zero_add]; exact sa) (by rw [Nat.zero_add]; exact sb)
      refine ⟨?_, fun t ht => ?_, fun t ht => ?_⟩
      · show A.used + cs.length = B.used + cs'.length
        rw [h.used, e.2]
      · show sh ((A.D.sks.set i _).getD t Hd.none).sk.lv = sh ((B.D.sks.set i _).getD t Hd.none).sk.lv
        rw [sks_set (by rw [hA.len]; exact hi), sks_set (by rw [hB.len]; exact hi)]
        by_cases ej : t = i
        · rw [if_pos ej, if_pos ej]; exact e.1
        · rw [if_neg ej, if_neg ej]; exact h.lv t ht
      · show ((A.D.sks.set i _).getD t Hd.none).sk.k = ((B.D.sks.set i _).getD t Hd.none).sk.k
        rw [sks_set (by rw [hA.len]; exact hi), sks_set (by rw [hB.len]; exact hi)]
        by_cases ej : t = i
        · rw [if_pos ej, if_pos ej]; exact hk
        · rw [if_neg ej, if_neg ej]; exact h.k t ht
theorem Alike.step {A B A' B' : Wd} {kd a b b' c : Int} (h : Alike A B) (hA : MInv A) (hB : MInv B) (hb : kd = 1 → b' = b) (ra : StepR kd a b c A A') (rb : StepR kd a b' c B B') : Alike A' B' := by
  rcases ra with ⟨k1, ra⟩ | ⟨k1, ra⟩
  · rcases rb with ⟨_, rb⟩ | ⟨k2, _⟩
    · rw [hb k1] at rb
      exact h.merge hA hB (pickN_lt a (by omega)) (pickN_lt b (by omega)) ra rb
    · exact absurd k1 k2
  · rcases rb with ⟨k2, _⟩ | ⟨_, rb⟩
    · exact absurd k2 k1
    · exact h.add hA hB (pickN_lt a (by omega)) ra rb

end Go.Proofs.Ytklicjbpjigfdab
