/- DERIVED. Plain mathematics: two sketches alike go on alike with the same coins. -/
import Derived.Test.YtklicjbpjigfdabMh
import Derived.Test.YtklicjbpjigfdabMq
import Derived.Test.YtklicjbpjigfdabMy
namespace Go.Proofs.Ytklicjbpjigfdab
open Go.RowKit

/-- Sketch n is as sketch i. -/
def Twin (i n : Nat) (W : Wd) : Prop := (W.D.sks.getD n Hd.none).sk = (W.D.sks.getD i Hd.none).sk
/-- The place among the coins is set back. -/
def Wd.atBack (W : Wd) (a : Nat) : Wd := { W with at_ := a }
theorem MInvM.atBack {m a : Nat} {W : Wd} (h : MInvM m W) (ha : a ≤ 140737488355328) : MInvM m (W.atBack a) :=
  ⟨h.len, h.tape, ha, h.coins, h.most, h.used, h.came, h.roomy, h.tall, h.near, h.uns⟩

theorem twin_add {m i n wt : Nat} {x : Int} {W W1 W2 : Wd} (hm : MInvM m W) (hi : i < m) (hn : n < m) (hne : n ≠ i) (ht : Twin i n W) (h1 : AddR i x wt W W1) (h2 : AddR n x wt (W1.atBack W.at_) W2) : Twin i n W2 := by
  have hil : i < W.D.sks.length := by rw [hm.len]; exact hi
  have hnl : n < W.D.sks.length := by rw [hm.len]; exact hn
  unfold Twin at *
  rcases h1 with ⟨f1, rfl⟩ | ⟨f1, cs, L', a, da, sa, _, rfl⟩
  · rcases h2 with ⟨_, rfl⟩ | ⟨f2, _⟩
    · exact ht
    · exfalso
      have f2' : wsum (W1.D.sks.getD n Hd.none).sk.lv + wt ≤ 268435456 := f2
      rw [ht] at f2'; omega
  · have e0 : ((W.took i x wt L' cs.length a).atBack W.at_).D.sks.getD n Hd.none = W.D.sks.getD n Hd.none := by
      show (W.D.sks.set i _).getD n Hd.none = _
      rw [set_at hil, if_neg hne]
    rcases h2 with ⟨f2, _⟩ | ⟨f2, cs', T', a', db, sb, _, rfl⟩
    · exfalso
      rw [e0, ht] at f2; omega
    · rw [e0] at sb
      have ea : addL (W.D.sks.getD n Hd.none) x wt = addL (W.D.sks.getD i Hd.none) x wt := by unfold addL; rw [ht]
      rw [ea, ht] at sb
      have e := (sh_settle (u := 0) rfl (by rw [Nat.zero_add]; exact sa) (by rw [Nat.zero_add]; exact sb)).2
      have ec : cs = cs' := by
        have d1 := da.2.1
        have d2 : cs' = drw W.coins W.at_ cs'.length := db.2.1
        rw [d1, d2, e]
      subst ec
      rw [sa] at sb
      simp only [Option.some.injEq, Prod.mk.injEq] at sb
      have eL : T' = L' := sb.1.symm
      subst eL
      have hil1 : i < ((W.took i x wt T' cs.length a).atBack W.at_).D.sks.length := by show i < (W.D.sks.set i _).length; rw [List.length_set]; exact hil
      have hnl1 : n < ((W.took i x wt T' cs.length a).atBack W.at_).D.sks.length := by show n < (W.D.sks.set i _).length; rw [List.length_set]; exact hnl
      show ((((W.took i x wt T' cs.length a).atBack W.at_).D.sks.set n _).getD n Hd.none).sk = ((((W.took i x wt T' cs.length a).atBack W.at_).D.sks.set n _).getD i Hd.none).sk
      rw [set_at hnl1, set_at hnl1, if_pos rfl, if_neg (Ne.symm hne), e0]
      show _ = ((W.D.sks.set i _).getD i Hd.none).sk
      rw [set_at hil, if_pos rfl]
      simp only [addLo, addHi, ht]
theorem twin_merge {m i n j : Nat} {W W1 W2 : Wd} (hm : MInvM m W) (hi : i < m) (hn : n < m) (hne : n ≠ i) (hji : j ≠ i) (ht : Twin i n W) (h1 : MergeR i j W W1) (h2 : MergeR n j (W1.atBack W.at_) W2) : Twin i n W2 := by
  have hil : i < W.D.sks.length := by rw [hm.len]; exact hi
  have hnl : n < W.D.sks.length := by rw [hm.len]; exact hn
  unfold Twin at *
  rcases h1 with ⟨f1, rfl⟩ | ⟨f1, cs, L', a, da, sa, _, rfl⟩
  · rcases h2 with ⟨_, rfl⟩ | ⟨f2, _⟩
    · exact ht
    · exfalso
      have f2' : wsum (W1.D.sks.getD n Hd.none).sk.lv + wsum (W1.D.sks.getD j Hd.none).sk.lv ≤ 268435456 := f2
      rw [ht] at f2'; omega
  · have e0 : ((W.joined i j L' cs.length a).atBack W.at_).D.sks.getD n Hd.none = W.D.sks.getD n Hd.none := by
      show (W.D.sks.set i _).getD n Hd.none = _
      rw [set_at hil, if_neg hne]
    have ej : ((W.joined i j L' cs.length a).atBack W.at_).D.sks.getD j Hd.none = W.D.sks.getD j Hd.none := by
      show (W.D.sks.set i _).getD j Hd.none = _
      rw [set_at hil, if_neg hji]
    rcases h2 with ⟨f2, _⟩ | ⟨f2, cs', T', a', db, sb, _, rfl⟩
    · exfalso
      rw [e0, ej, ht] at f2; omega
    · rw [e0, ej] at sb
      have ea : mgL (W.D.sks.getD n Hd.none) (W.D.sks.getD j Hd.none) = mgL (W.D.sks.getD i Hd.none) (W.D.sks.getD j Hd.none) := by unfold mgL; rw [ht]
      have ek : mgK (W.D.sks.getD n Hd.none) (W.D.sks.getD j Hd.none) = mgK (W.D.sks.getD i Hd.none) (W.D.sks.getD j Hd.none) := by unfold mgK; rw [ht]
      rw [ea, ek] at sb
      have e := (sh_settle (u := 0) rfl (by rw [Nat.zero_add]; exact sa) (by rw [Nat.zero_add]; exact sb)).2
      have ec : cs = cs' := by
        have d1 := da.2.1
        have d2 : cs' = drw W.coins W.at_ cs'.length := db.2.1
        rw [d1, d2, e]
      subst ec
      rw [sa] at sb
      simp only [Option.some.injEq, Prod.mk.injEq] at sb
      have eL : T' = L' := sb.1.symm
      subst eL
      have hnl1 : n < ((W.joined i j T' cs.length a).atBack W.at_).D.sks.length := by show n < (W.D.sks.set i _).length; rw [List.length_set]; exact hnl
      show ((((W.joined i j T' cs.length a).atBack W.at_).D.sks.set n _).getD n Hd.none).sk = ((((W.joined i j T' cs.length a).atBack W.at_).D.sks.set n _).getD i Hd.none).sk
      rw [set_at hnl1, set_at hnl1, if_pos rfl, if_neg (Ne.symm hne), e0, ej]
      show _ = ((W.D.sks.set i _).getD i Hd.none).sk
      rw [set_at hil, if_pos rfl]
      simp only [mgLo, mgHi, ek, ht]

/-- A sketch more is begun. -/
theorem minv_opened {m k : Nat} {o : Bool} {W : Wd} (h : MInvM m W) (hk1 : 2 ≤ k) (hk2 : k ≤ 64) : MInvM (m + 1) { W with D := { W.D with sks := W.D.sks ++ [Hd.begun k] }, sd := fun j => if j = m then { Sd.begun k with ones := o } else W.sd j } := by
  have hat : ∀ j, j < m + 1 → (W.D.sks ++ [Hd.begun k]).getD j Hd.none = if j = m then Hd.begun k else W.D.sks.getD j Hd.none := by
    intro j hj
    have hl := h.len
    by_cases e : j = m
    · subst e
      rw [if_pos rfl]
      simp [List.getD, ← hl]
    · rw [if_neg e]
      simp [List.getD, List.getElem?_append, hl, show j < m by omega]
  have hb : Came (Hd.begun k) { Sd.begun k with ones := o } := by
    have := came_begun k hk1 hk2
    exact ⟨⟨this.inok.ok, this.inok.n, this.inok.set, this.inok.xl, this.inok.wl⟩, this.k, this.len, this.sum, this.lvok, this.tn, this.ends, this.pos⟩
  refine ⟨?_, h.tape, h.at_, h.coins, h.most, ?_, fun j hj => ?_, fun j hj => ?_, fun j hj => ?_, fun j hj q => ?_, fun j hj => (by
    show ((W.D.sks ++ [Hd.begun k]).getD j Hd.none).sealed = false
    rw [hat j hj]
    by_cases e : j = m
    · rw [if_pos e]; rfl
    · rw [if_neg e]; exact h.uns j (by omega))⟩
  · show (W.D.sks ++ [Hd.begun k]).length = m + 1
    simp [h.len]
  · have h9 := h.used
    show W.used + 256 * sumTo (m + 1) (fun j => ((W.D.sks ++ [Hd.begun k]).getD j Hd.none).sk.k) ≤ 256 * sumTo (m + 1) (fun j => (if j = m then { Sd.begun k with ones := o } else W.sd j).n) + 256 * (64 * (m + 1))
    rw [sumTo, sumTo]
    have e1 : sumTo m (fun j => ((W.D.sks ++ [Hd.begun k]).getD j Hd.none).sk.k) = sumTo m (fun j => (W.D.sks.getD j Hd.none).sk.k) := sumTo_congr (fun j hj => by rw [hat j (by omega), if_neg (by omega)])
    have e2 : sumTo m (fun j => (if j = m then { Sd.begun k with ones := o } else W.sd j).n) = sumTo m (fun j => (W.sd j).n) := sumTo_congr (fun j hj => by rw [if_neg (by omega)])
    have e3 : ((W.D.sks ++ [Hd.begun k]).getD m Hd.none).sk.k = k := by rw [hat m (by omega), if_pos rfl]; rfl
    rw [e1, e2, e3]
    omega
  · show Came ((W.D.sks ++ [Hd.begun k]).getD j Hd.none) (if j = m then { Sd.begun k with ones := o } else W.sd j)
    rw [hat j hj]
    by_cases e : j = m
    · rw [if_pos e, if_pos e]; exact hb
    · rw [if_neg e, if_neg e]; exact h.came j (by omega)
  · show Roomy ((W.D.sks ++ [Hd.begun k]).getD j Hd.none).sk.k ((W.D.sks ++ [Hd.begun k]).getD j Hd.none).sk.lv
    rw [hat j hj]
    by_cases e : j = m
    · rw [if_pos e]; exact ⟨by simp [Lvl.none], trivial⟩
    · rw [if_neg e]; exact h.roomy j (by omega)
  · show Tall ((W.D.sks ++ [Hd.begun k]).getD j Hd.none).sk.lv
    rw [hat j hj]
    by_cases e : j = m
    · rw [if_pos e]; exact .inl (Nat.le_refl _)
    · rw [if_neg e]; exact h.tall j (by omega)
  · show Near q ((W.D.sks ++ [Hd.begun k]).getD j Hd.none).sk.lv (wFilter (fun x => decide (x ≤ q)) (if j = m then { Sd.begun k with ones := o } else W.sd j).xs (if j = m then { Sd.begun k with ones := o } else W.sd j).ws)
    rw [hat j hj]
    by_cases e : j = m
    · rw [if_pos e, if_pos e]; exact ⟨Nat.zero_le _, Nat.zero_le _⟩
    · rw [if_neg e, if_neg e]; exact h.near j (by omega) q

end Go.Proofs.Ytklicjbpjigfdab

/- DERIVED. The walk of the statement's own both: a step on two sketches alike, with the same coins. -/
namespace Go.Proofs.Ytklicjbpjigfdab
open Go.RowKit
attribute [local go_sem ↓] Go.wp_at_zero Go.wp_at_succ
variable {K : Nat → Prop} {w0 : World}

/-- A block of the call's own is nobody's. -/
theorem WdSt.boxed {w : World} {p d m : Nat} {W : Wd} {ps : Nat → Nat} (h : WdSt K w0 w p d m ps W) (o : Obj) : WdSt (fun b => K b ∨ b = w.heap.size) (w.alloc o) (w.alloc o) p d m ps W ∧ Keeps K w0 (w.alloc o) ∧ (∀ b, K b → b < w0.heap.size) := by
  obtain ⟨own, vs, vx, vw, h, h2K, hk⟩ := h
  have hb : Below w.heap.size w (w.alloc o) := (Below.refl _ _).alloc (Nat.le_refl _) _
  exact ⟨h.local h2K hk hb (by simp), hk.below hb (fun b e => (h2K b e).2), fun b e => (h2K b e).2⟩
theorem WdSt.cell3 {w : World} {p d m : Nat} {W : Wd} {ps : Nat → Nat} (h : WdSt K w0 w p d m ps W) : w.cell? ⟨p, 3, none⟩ = some (.int .i64 (W.at_ : Int)) ∧ (∀ o, w.frozen? ⟨p, o, none⟩ = false) ∧ p < w.heap.size := by
  obtain ⟨own, vs, vx, vw, h, h2K, hk⟩ := h
  obtain ⟨c0, c1, c2, c3, c4, c5, c6, cz⟩ := blk7 h.blk
  exact ⟨c3, cz, lt_of_blk' h.blk⟩

/-- What both leaves. -/
def BothPost (K : Nat → Prop) (w0 : World) (p d i : Nat) (ps : Nat → Nat) (w' : World) : Prop := ∃ W', WdSt K w0 w' p d 4 ps W' ∧ MInvM 4 W' ∧ Twin i 3 W'

set_option maxHeartbeats 2000000 in
set_option maxRecDepth 100000 in
theorem both_any (p d i : Nat) (kd A B C : Int) (ps : Nat → Nat) (W : Wd) (w : World) (h : WdSt K w0 w p d 4 ps W) (hi : i < 3) (hm : MInvM 4 W) (ht : Twin i 3 W) (hB : InRange B) (hC : InRange C) :
    Calls Try.prog 14 #[.pointer (some ⟨p, 0, none⟩), .int .i64 (i : Int), .int .i64 ((3 : Nat) : Int), .agg #[.int .i64 kd, .int .i64 A, .int .i64 B, .int .i64 C]] w fun e w' => e = .returned (.bool true) ∧ BothPost K w0 p d i ps w' := by
  obtain ⟨hL, hK1, hK2⟩ := h.boxed (.cells #[.int .i64 kd, .int .i64 A, .int .i64 B, .int .i64 C] 39)
  have hSB := heap_alloc_new w (.cells #[.int .i64 kd, .int .i64 A, .int .i64 B, .int .i64 C] 39)
  have HSB := hid hSB
  have HL := hid hL
  have HK1 := hid hK1
  have HK2 := hid hK2
  obtain ⟨c3, cz, hpz⟩ := hL.cell3
  have HM := hid hm
  have HT := hid ht
  have HMG := hid (fun (K' : Nat → Prop) (w0' : World) (V : Wd) (a b : Nat) (w' : World) (hv : MInvM 4 V) (ha : a < 4) (hb : b < 4) (hs : WdSt K' w0' w' p d 4 ps V) => wmerge_any p d a b ps V w' hs ha hb hv.len (hv.uns a ha) (hv.came a ha) (hv.came b hb) hv.tape hv.at_ hv.coins hv.most (hv.small (by omega)))
  have HAD := hid (fun (K' : Nat → Prop) (w0' : World) (V : Wd) (a wt : Nat) (x : Int) (w' : World) (hv : MInvM 4 V) (ha : a < 4) (h1 : 1 ≤ wt) (h2 : wt ≤ 268435456) (hs : WdSt K' w0' w' p d 4 ps V) => wadd_any p d a wt x ps V w' hs ha hv.len (hv.uns a ha) (hv.came a ha).inok hv.tape h1 h2 hv.at_ hv.coins hv.most (hv.small (by omega)))
  have HP := hid (fun (w' : World) => pick_any B 3 w' hB.1 hB.2 (by omega) (by omega))
  have hpl := pickN_lt B (n := 3) (by omega)
  have HW := hid (fun (w' : World) => weight_any C w' hC.1 hC.2)
  have hwb := weightN_bd C
  have HAT := hid hm.at_
  generalize pickN B 3 = j at *
  generalize weightN C = wt at *
  generalize hat : W.at_ = a0 at *
  have HA0 := hid hat
  clear h hL hK1 hK2 hSB hm ht hB hC hat
  by_cases hkd : kd = 1
  · subst hkd
    by_cases hji : j = i
    · subst hji
      have hjj : ((j : Int) == (j : Int)) = true := by simp
      go_enter Try.func14, Try.ntmps14
      go_wp2_with (go_at_call 9; refine (HP.out _).mono ?_; rintro e w' ⟨rfl, hw⟩; obtain rfl := hw.symm)
      go_ret
      exact ⟨rfl, W, HL.out.back HK1.out HK2.out, HM.out, HT.out⟩
    · have hjj : ((j : Int) == (i : Int)) = false := by simp; omega
      go_enter Try.func14, Try.ntmps14
      go_wp2_with (go_at_call 9; refine (HP.out _).mono ?_; rintro e w' ⟨rfl, hw⟩; obtain rfl := hw.symm)
      refine (HMG.out _ _ W i j _ HM.out (by omega) (by omega) HL.out).mono ?_
      rintro e w1 ⟨rfl, hp1⟩
      obtain ⟨W1, hst1, hr1⟩ := hp1.rel
      have HR1 := hid hr1
      have HM1 := hid (hr1.inv HM.out (show i < 4 by omega) (by omega))
      have HS1 := hid hst1
      clear hp1 hst1 hr1 c3 cz
      obtain ⟨c3, cz, hpz1⟩ := HS1.out.cell3
      go_upto_region 8 with fail
      have HS2 : Hid (WdSt (fun b => K b ∨ b = w.heap.size) (w.alloc (.cells #[.int .i64 1, .int .i64 A, .int .i64 B, .int .i64 C] 39)) (w1.setCell ⟨p, 3, none⟩ (.int .i64 (a0 : Int))) p d 4 ps (W1.atBack a0)) := HS1.out.setAt a0
      generalize w1.setCell ⟨p, 3, none⟩ (.int .i64 (a0 : Int)) = w2 at *
      have HM2 := hid (HM1.out.atBack HAT.out)
      clear c3 cz HS1
      go_wp2_with fail
      refine (HMG.out _ _ (W1.atBack a0) 3 j _ HM2.out (by omega) (by omega) HS2.out).mono ?_
      rintro e w3 ⟨rfl, hp3⟩
      obtain ⟨W3, hst3, hr3⟩ := hp3.rel
      have HP3 : Hid (BothPost K w0 p d i ps w3) := ⟨W3, hst3.back HK1.out HK2.out, hr3.inv HM2.out (show 3 < 4 by omega) (by omega), twin_merge HM.out (by omega) (by omega) (by omega) hji HT.out HR1.out (by rw [HA0.out]; exact hr3)⟩
      clear hp3 hst3 hr3
      go_wp2_with fail
      go_ret
      exact ⟨rfl, HP3.out⟩
  · have hkk : (kd == 1) = false := by simp [hkd]
    obtain ⟨s0, s1, s2, s3, sz⟩ := blk4 HSB.out
    go_enter Try.func14, Try.ntmps14
    go_wp2_with (go_at_call 40; refine (HW.out _).mono ?_; rintro e w' ⟨rfl, hw⟩; obtain rfl := hw.symm)
    refine (HAD.out _ _ W i wt B _ HM.out (by omega) hwb.1 hwb.2 HL.out).mono ?_
    rintro e w1 ⟨rfl, hp1⟩
    obtain ⟨W1, hst1, hr1⟩ := hp1.rel
    have HR1 := hid hr1
    have HM1 := hid (hr1.inv HM.out (show i < 4 by omega) hwb.1 hwb.2)
    have HS1 := hid hst1
    clear hp1 hst1 hr1 c3 cz s0 s1 s2 s3 sz
    obtain ⟨c3, cz, hpz1⟩ := HS1.out.cell3
    go_upto_region 13 with fail
    have HS2 : Hid (WdSt (fun b => K b ∨ b = w.heap.size) (w.alloc (.cells #[.int .i64 kd, .int .i64 A, .int .i64 B, .int .i64 C] 39)) (w1.setCell ⟨p, 3, none⟩ (.int .i64 (a0 : Int))) p d 4 ps (W1.atBack a0)) := HS1.out.setAt a0
    generalize w1.setCell ⟨p, 3, none⟩ (.int .i64 (a0 : Int)) = w2 at *
    have HM2 := hid (HM1.out.atBack HAT.out)
    have hsb2 := (HS2.out.keeps.block w.heap.size (.inr rfl)).trans HSB.out
    obtain ⟨s0, s1, s2, s3, sz⟩ := blk4 hsb2
    clear c3 cz HS1 hsb2
    go_wp2_with fail
    refine (HAD.out _ _ (W1.atBack a0) 3 wt B _ HM2.out (by omega) hwb.1 hwb.2 HS2.out).mono ?_
    rintro e w3 ⟨rfl, hp3⟩
    obtain ⟨W3, hst3, hr3⟩ := hp3.rel
    have HP3 : Hid (BothPost K w0 p d i ps w3) := ⟨W3, hst3.back HK1.out HK2.out, hr3.inv HM2.out (show 3 < 4 by omega) hwb.1 hwb.2, twin_add HM.out (by omega) (by omega) (by omega) HT.out HR1.out (by rw [HA0.out]; exact hr3)⟩
    clear hp3 hst3 hr3
    go_wp2_with fail
    go_ret
    exact ⟨rfl, HP3.out⟩

end Go.Proofs.Ytklicjbpjigfdab
