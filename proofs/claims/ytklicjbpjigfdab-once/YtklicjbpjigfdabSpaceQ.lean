/- DERIVED. What holds of the statement's world goes on holding when a number comes in: the room, the thinnings, the coins. -/
import Derived.Test.YtklicjbpjigfdabSpaceP
import Derived.Test.YtklicjbpjigfdabNc
namespace Go.Proofs.Ytklicjbpjigfdab
open Go.RowKit
variable {K : Nat → Prop} {w0 : World}

/-- The sketches behind it. -/
theorem took_at (W : Wd) (i j : Nat) (x : Int) (wt : Nat) (L' : List Lvl) (u a : Nat) (hi : i < W.D.sks.length) :
    (W.took i x wt L' u a).D.sks.getD j Hd.none = if j = i then { sk := { k := (W.D.sks.getD i Hd.none).sk.k, lv := L', lo := addLo (W.D.sks.getD i Hd.none) x, hi := addHi (W.D.sks.getD i Hd.none) x }, sealed := (W.D.sks.getD i Hd.none).sealed, taken := (W.D.sks.getD i Hd.none).taken } else W.D.sks.getD j Hd.none := by
  show (W.D.sks.set i _).getD j Hd.none = _
  by_cases e : j = i
  · subst e
    rw [if_pos rfl]
    simp only [List.getD]
    rw [List.getElem?_set_self hi]
    rfl
  · rw [if_neg e]
    simp only [List.getD]
    rw [List.getElem?_set_ne (Ne.symm e)]

theorem winv_took {W : Wd} {i : Nat} {x : Int} {wt a : Nat} {cs : List Bool} {L' : List Lvl} (h : WInv W) (hi : i < 3) (hw1 : 1 ≤ wt) (hw2 : wt ≤ 268435456) (hf : wsum (W.D.sks.getD i Hd.none).sk.lv + wt ≤ 268435456) (ha : a ≤ 140737488355328)
    (hs : settle (W.D.sks.getD i Hd.none).sk.k cs 0 (addL (W.D.sks.getD i Hd.none) x wt) = some (L', cs.length)) (hcs : cs.length ≤ 29) : WInv (W.took i x wt L' cs.length a) := by
  refine ⟨?_, rfl, ha, h.coins, h.most, ?_, fun j hj => ?_, fun j hj => sealed_set (h.uns j hj) (h.uns i hi)⟩
  · show (W.D.sks.set i _).length = 3
    rw [List.length_set]; exact h.len
  · have hu := h.used
    show W.used + cs.length ≤ 29 * ((if 0 = i then (W.sd i).took x wt else W.sd 0).n + (if 1 = i then (W.sd i).took x wt else W.sd 1).n + (if 2 = i then (W.sd i).took x wt else W.sd 2).n)
    have ht : ((W.sd i).took x wt).n = (W.sd i).n + wt := rfl
    have : i = 0 ∨ i = 1 ∨ i = 2 := by omega
    rcases this with rfl | rfl | rfl
    · rw [if_pos rfl, if_neg (by omega), if_neg (by omega), ht]; omega
    · rw [if_neg (by omega), if_pos rfl, if_neg (by omega), ht]; omega
    · rw [if_neg (by omega), if_neg (by omega), if_pos rfl, ht]; omega
  · rw [took_at W i j x wt L' cs.length a (by rw [h.len]; exact hi)]
    show Came _ (if j = i then (W.sd i).took x wt else W.sd j)
    by_cases e : j = i
    · subst e
      rw [if_pos rfl, if_pos rfl]
      exact came_took (h.came j hj) hw1 hw2 hf hs
    · rw [if_neg e, if_neg e]
      exact h.came j hj

structure SInv (W : Wd) : Prop where
  inv : WInv W
  roomy : ∀ i, i < 3 → Roomy (W.D.sks.getD i Hd.none).sk.k (W.D.sks.getD i Hd.none).sk.lv
  tall : ∀ i, i < 3 → Tall (W.D.sks.getD i Hd.none).sk.lv
  times : tsum (W.D.sks.getD 0 Hd.none).sk.lv + tsum (W.D.sks.getD 1 Hd.none).sk.lv + tsum (W.D.sks.getD 2 Hd.none).sk.lv = W.used

theorem SInv.add {W : Wd} {p d i : Nat} {ps : Nat → Nat} {x : Int} {wt : Nat} {w' : World} (h : SInv W) (hi : i < 3) (hw1 : 1 ≤ wt) (hw2 : wt ≤ 268435456) (ha : AddPost K w0 p d 3 i ps x wt W w') : ∃ W', WdSt K w0 w' p d 3 ps W' ∧ SInv W' ∧ (wt = 1 → W'.used ≤ W.used + 1) := by
  rcases ha with ⟨_, hst⟩ | ⟨hf, cs, L', a, ha, hs, hcs, hst⟩
  · exact ⟨W, hst, h, fun _ => Nat.le_succ _⟩
  · have hil : i < W.D.sks.length := by rw [h.inv.len]; exact hi
    have hc := h.inv.came i hi
    have hat := fun j => took_at W i j x wt L' cs.length a hil
    have hlt : wt < 2 ^ 29 := Nat.lt_of_le_of_lt hw2 (by decide)
    have hro : Roomy (W.D.sks.getD i Hd.none).sk.k L' := (Roomy.with (h.roomy i hi)).settle hs
    have hta : Tall L' := by
      refine Tall.settle ?_ hs
      have e1 : wsum (addL (W.D.sks.getD i Hd.none) x wt) = wsum (W.D.sks.getD i Hd.none).sk.lv + wt := by unfold addL; rw [withFrom_wsum hlt (Nat.zero_le _)]; simp
      unfold Tall
      rw [e1]
      rcases with_tall (x := x) (f := 29) (w := wt) (h := 0) (L := (W.D.sks.getD i Hd.none).sk.lv) (Nat.zero_le _) with e | e
      · have e' : (addL (W.D.sks.getD i Hd.none) x wt).length = (W.D.sks.getD i Hd.none).sk.lv.length := e
        rw [e']
        rcases h.tall i hi with t | t
        · exact .inl t
        · right; omega
      · right
        have e' : 2 ^ ((addL (W.D.sks.getD i Hd.none) x wt).length - 1) ≤ 2 ^ 0 * wt := e
        omega
    have hts : tsum L' = tsum (W.D.sks.getD i Hd.none).sk.lv + cs.length := by
      have h1 := settle_tsum hs
      have h2 : tsum (addL (W.D.sks.getD i Hd.none) x wt) = tsum (W.D.sks.getD i Hd.none).sk.lv := withFrom_tsum
      omega
    refine ⟨_, hst, ⟨winv_took h.inv hi hw1 hw2 hf ha.1 hs hcs, fun j hj => ?_, fun j hj => ?_, ?_⟩, fun h1 => ?_⟩
    · rw [hat]
      by_cases e : j = i
      · rw [if_pos e]; exact hro
      · rw [if_neg e]; exact h.roomy j hj
    · rw [hat]
      by_cases e : j = i
      · rw [if_pos e]; exact hta
      · rw [if_neg e]; exact h.tall j hj
    · rw [hat, hat, hat]
      show _ = W.used + cs.length
      have ht := h.times
      have : i = 0 ∨ i = 1 ∨ i = 2 := by omega
      rcases this with rfl | rfl | rfl
      · rw [if_pos rfl, if_neg (by omega), if_neg (by omega)]
        show tsum L' + _ + _ = _
        omega
      · rw [if_neg (by omega), if_pos rfl, if_neg (by omega)]
        show _ + tsum L' + _ = _
        omega
      · rw [if_neg (by omega), if_neg (by omega), if_pos rfl]
        show _ + _ + tsum L' = _
        omega
    · show W.used + cs.length ≤ W.used + 1
      subst h1
      have e3 : (W.D.sks.getD i Hd.none).sk.lv.length ≤ (addL (W.D.sks.getD i Hd.none) x 1).length := withFrom_length_ge (Nat.zero_le _)
      have e5 : nsum (addL (W.D.sks.getD i Hd.none) x 1) ≤ nsum (W.D.sks.getD i Hd.none).sk.lv + 1 := withFrom_nw (Nat.zero_le _)
      have e6 := capSum_mono (k := (W.D.sks.getD i Hd.none).sk.k) e3
      have e7 := hc.inok.set
      have := settle_few (m := 1) (by omega) hs
      omega

theorem first_sinv (k : Int) (coins : ByteArray) (hc : coins.size ≤ 140737488355328) : SInv (Wd.first k coins 3) := by
  refine ⟨first_inv k coins hc, fun i hi => ?_, fun i hi => ?_, rfl⟩
  · have : i = 0 ∨ i = 1 ∨ i = 2 := by omega
    rcases this with rfl | rfl | rfl
    all_goals exact ⟨by simp [Lvl.none], trivial⟩
  · have : i = 0 ∨ i = 1 ∨ i = 2 := by omega
    rcases this with rfl | rfl | rfl
    all_goals exact .inl (Nat.le_refl _)

end Go.Proofs.Ytklicjbpjigfdab
