/- DERIVED. Plain mathematics: two sketches alike go on alike with the same coins. -/
import Derived.Test.YtklicjbpjigfdabMh
import Derived.Test.YtklicjbpjigfdabMq
namespace Go.Proofs.Ytklicjbpjigfdab
open Go.RowKit

/-- Sketch n is as sketch i. -/
def Twin (i n : Nat) (W : Wd) : Prop := (W.D.sks.getD n Hd.none).sk = (W.D.sks.getD i Hd.none).sk
/-- The place among the coins is set back. -/
def Wd.atBack (W : Wd) (a : Nat) : Wd := { W with at_ := a }
theorem MInvM.atBack {m a : Nat} {W : Wd} (h : MInvM m W) (ha : a ≤ 140737488355328) : MInvM m (W.atBack a) :=
  ⟨h.len, h.tape, ha, h.coins, h.most, h.used, h.came, h.roomy, h.tall, h.near, h.uns⟩

theorem twin_add {m i n wt : Nat} {x : Int} {W W1 W2 : Wd} (hm : MInvM m W) (hi : i < m) (hn : n < m) (hne : n ≠ i) (ht : Twin i n W) (h1 : AddR i x wt W W1) (h2 : AddR n x wt (W1.atBack W.at_) W2) : Twin i n W2 := by
  have hil : i < W.D.sks.length := by rw [hm.len]; exact hi
  have hnl : n < W.D.sks.length := by rw [hm.len]; exact hn
  unfold Twin at *
  rcases h1 with ⟨f1, rfl⟩ | ⟨f1, cs, L', a, da, sa, _, rfl⟩
  · rcases h2 with ⟨_, rfl⟩ | ⟨f2, _⟩
    · exact ht
    · exfalso
      have f2' : wsum (W1.D.sks.getD n Hd.none).sk.lv + wt ≤ 268435456 := f2
      rw [ht] at f2'; omega
  · have e0 : ((W.took i x wt L' cs.length a).atBack W.at_).D.sks.getD n Hd.none = W.D.sks.getD n Hd.none := by
      show (W.D.sks.set i _).getD n Hd.none = _
      rw [set_at hil, if_neg hne]
    rcases h2 with ⟨f2, _⟩ | ⟨f2, cs', T', a', db, sb, _, rfl⟩
    · exfalso
      rw [e0, ht] at f2; omega
    · rw [e0] at sb
      have ea : addL (W.D.sks.getD n Hd.none) x wt = addL (W.D.sks.getD i Hd.none) x wt := by unfold addL; rw [ht]
      rw [ea, ht] at sb
      have e := (sh_settle (u := 0) rfl (by rw [Nat.zero_add]; exact sa) (by rw [Nat.zero_add]; exact sb)).2
      have ec : cs = cs' := by
        have d1 := da.2.1
        have d2 : cs' = drw W.coins W.at_ cs'.length := db.2.1
        rw [d1, d2, e]
      subst ec
      rw [sa] at sb
      simp only [Option.some.injEq, Prod.mk.injEq] at sb
      have eL : T' = L' := sb.1.symm
      subst eL
      have hil1 : i < ((W.took i x wt T' cs.length a).atBack W.at_).D.sks.length := by show i < (W.D.sks.set i _).length; rw [List.length_set]; exact hil
      have hnl1 : n < ((W.took i x wt T' cs.length a).atBack W.at_).D.sks.length := by show n < (W.D.sks.set i _).length; rw [List.length_set]; exact hnl
      show ((((W.took i x wt T' cs.length a).atBack W.at_).D.sks.set n _).getD n Hd.none).sk = ((((W.took i x wt T' cs.length a).atBack W.at_).D.sks.set n _).getD i Hd.none).sk
      rw [set_at hnl1, set_at hnl1, if_pos rfl, if_neg (Ne.symm hne), e0]
      show _ = ((W.D.sks.set i _).getD i Hd.none).sk
      rw [set_at hil, if_pos rfl]
      simp only [addLo, addHi, ht]
theorem twin_merge {m i n j : Nat} {W W1 W2 : Wd} (hm : MInvM m W) (hi : i < m) (hn : n < m) (hne : n ≠ i) (hji : j ≠ i) (ht : Twin i n W) (h1 : MergeR i j W W1) (h2 : MergeR n j (W1.atBack W.at_) W2) : Twin i n W2 := by
  have hil : i < W.D.sks.length := by rw [hm.len]; exact hi
  have hnl : n < W.D.sks.length := by rw [hm.len]; exact hn
  unfold Twin at *
  rcases h1 with ⟨f1, rfl⟩ | ⟨f1, cs, L', a, da, sa, _, rfl⟩
  · rcases h2 with ⟨_, rfl⟩ | ⟨f2, _⟩
    · exact ht
    · exfalso
      have f2' : wsum (W1.D.sks.getD n Hd.none).sk.lv + wsum (W1.D.sks.getD j Hd.none).sk.lv ≤ 268435456 := f2
      rw [ht] at f2'; omega
  · have e0 : ((W.joined i j L' cs.length a).atBack W.at_).D.sks.getD n Hd.none = W.D.sks.getD n Hd.none := by
      show (W.D.sks.set i _).getD n Hd.none = _
      rw [set_at hil, if_neg hne]
    have ej : ((W.joined i j L' cs.length a).atBack W.at_).D.sks.getD j Hd.none = W.D.sks.getD j Hd.none := by
      show (W.D.sks.set i _).getD j Hd.none = _
      rw [set_at hil, if_neg hji]
    rcases h2 with ⟨f2, _⟩ | ⟨f2, cs', T', a', db, sb, _, rfl⟩
    · exfalso
      rw [e0, ej, ht] at f2; omega
    · rw [e0, ej] at sb
      have ea : mgL (W.D.sks.getD n Hd.none) (W.D.sks.getD j Hd.none) = mgL (W.D.sks.getD i Hd.none) (W.D.sks.getD j Hd.none) := by unfold mgL; rw [ht]
      have ek : mgK (W.D.sks.getD n Hd.none) (W.D.sks.getD j Hd.none) = mgK (W.D.sks.getD i Hd.none) (W.D.sks.getD j Hd.none) := by unfold mgK; rw [ht]
      rw [ea, ek] at sb
      have e := (sh_settle (u := 0) rfl (by rw [Nat.zero_add]; exact sa) (by rw [Nat.zero_add]; exact sb)).2
      have ec : cs = cs' := by
        have d1 := da.2.1
        have d2 : cs' = drw W.coins W.at_ cs'.length := db.2.1
        rw [d1, d2, e]
      subst ec
      rw [sa] at sb
      simp only [Option.some.injEq, Prod.mk.injEq] at sb
      have eL : T' = L' := sb.1.symm
      subst eL
      have hnl1 : n < ((W.joined i j T' cs.length a).atBack W.at_).D.sks.length := by show n < (W.D.sks.set i _).length; rw [List.length_set]; exact hnl
      show ((((W.joined i j T' cs.length a).atBack W.at_).D.sks.set n _).getD n Hd.none).sk = ((((W.joined i j T' cs.length a).atBack W.at_).D.sks.set n _).getD i Hd.none).sk
      rw [set_at hnl1, set_at hnl1, if_pos rfl, if_neg (Ne.symm hne), e0, ej]
      show _ = ((W.D.sks.set i _).getD i Hd.none).sk
      rw [set_at hil, if_pos rfl]
      simp only [mgLo, mgHi, ek, ht]

/-- A sketch more is begun. -/
theorem minv_opened {m k : Nat} {o : Bool} {W : Wd} (h : MInvM m W) (hk1 : 2 ≤ k) (hk2 : k ≤ 64) : MInvM (m + 1) { W with D := { W.D with sks := W.D.sks ++ [Hd.begun k] }, sd := fun j => if j = m then { Sd.begun k with ones := o } else W.sd j } := by
  have hat : ∀ j, j < m + 1 → (W.D.sks ++ [Hd.begun k]).getD j Hd.none = if j = m then Hd.begun k else W.D.sks.getD j Hd.none := by
    intro j hj
    have hl := h.len
    by_cases e : j = m
    · subst e
      rw [if_pos rfl]
      simp [List.getD, ← hl]
    · rw [if_neg e]
      simp [List.getD, List.getElem?_append, hl, show j < m by omega]
  have hb : Came (Hd.begun k) { Sd.begun k with ones := o } := by
    have := came_begun k hk1 hk2
    exact ⟨⟨this.inok.ok, this.inok.n, this.inok.set, this.inok.xl, this.inok.wl⟩, this.k, this.len, this.sum, this.lvok, this.tn, this.ends, this.pos⟩
  refine ⟨?_, h.tape, h.at_, h.coins, h.most, ?_, fun j hj => ?_, fun j hj => ?_, fun j hj => ?_, fun j hj q => ?_, fun j hj => (by
    show ((W.D.sks ++ [Hd.begun k]).getD j Hd.none).sealed = false
    rw [hat j hj]
    by_cases e : j = m
    · rw [if_pos e]; rfl
    · rw [if_neg e]; exact h.uns j (by omega))⟩
  · show (W.D.sks ++ [Hd.begun k]).length = m + 1
    simp [h.len]
  · have h9 := h.used
    show W.used + 256 * sumTo (m + 1) (fun j => ((W.D.sks ++ [Hd.begun k]).getD j Hd.none).sk.k) ≤ 256 * sumTo (m + 1) (fun j => (if j = m then { Sd.begun k with ones := o } else W.sd j).n) + 256 * (64 * (m + 1))
    rw [sumTo, sumTo]
    have e1 : sumTo m (fun j => ((W.D.sks ++ [Hd.begun k]).getD j Hd.none).sk.k) = sumTo m (fun j => (W.D.sks.getD j Hd.none).sk.k) := sumTo_congr (fun j hj => by rw [hat j (by omega), if_neg (by omega)])
    have e2 : sumTo m (fun j => (if j = m then { Sd.begun k with ones := o } else W.sd j).n) = sumTo m (fun j => (W.sd j).n) := sumTo_congr (fun j hj => by rw [if_neg (by omega)])
    have e3 : ((W.D.sks ++ [Hd.begun k]).getD m Hd.none).sk.k = k := by rw [hat m (by omega), if_pos rfl]; rfl
    rw [e1, e2, e3]
    omega
  · show Came ((W.D.sks ++ [Hd.begun k]).getD j Hd.none) (if j = m then { Sd.begun k with ones := o } else W.sd j)
    rw [hat j hj]
    by_cases e : j = m
    · rw [if_pos e, if_pos e]; exact hb
    · rw [if_neg e, if_neg e]; exact h.came j (by omega)
  · show Roomy ((W.D.sks ++ [Hd.begun k]).getD j Hd.none).sk.k ((W.D.sks ++ [Hd.begun k]).getD j Hd.none).sk.lv
    rw [hat j hj]
    by_cases e : j = m
    · rw [if_pos e]; exact ⟨by simp [Lvl.none], trivial⟩
    · rw [if_neg e]; exact h.roomy j (by omega)
  · show Tall ((W.D.sks ++ [Hd.begun k]).getD j Hd.none).sk.lv
    rw [hat j hj]
    by_cases e : j = m
    · rw [if_pos e]; exact .inl (Nat.le_refl _)
    · rw [if_neg e]; exact h.tall j (by omega)
  · show Near q ((W.D.sks ++ [Hd.begun k]).getD j Hd.none).sk.lv (wFilter (fun x => decide (x ≤ q)) (if j = m then { Sd.begun k with ones := o } else W.sd j).xs (if j = m then { Sd.begun k with ones := o } else W.sd j).ws)
    rw [hat j hj]
    by_cases e : j = m
    · rw [if_pos e, if_pos e]; exact ⟨Nat.zero_le _, Nat.zero_le _⟩
    · rw [if_neg e, if_neg e]; exact h.near j (by omega) q

end Go.Proofs.Ytklicjbpjigfdab
