/- DERIVED. The walk of the document's own thinned. -/
import Derived.Test.YtklicjbpjigfdabGreatRefC
import Derived.Test.YtklicjbpjigfdabGreatLevelW
import Derived.Deep.AppendLies
import Derived.Deep.RegionWith
namespace Go.Proofs.YtklicjbpjigfdabGreat
open Go.RowKit
attribute [local go_sem ↓] Go.wp_at_zero Go.wp_at_succ

theorem nats_length (T : List Nat) : (nats T).length = T.length := by simp [nats]
abbrev rsZero : Obj := rsBlk 0 (.slice none 0 0) (.slice none 0 0) 0 0 false (.slice none 0 0)
/-- Blocks of other kinds than the row that grows are as they were. -/
theorem grow_keep {wx w' : World} {base size n : Nat} {T : TypeId} {v : Value} {xs : List Value} (hown : wx.ownsRow base T size v n xs) (hg : wx.grownBy w' v.ownBlock) {b : Nat} {c : Array Value} {t : TypeId} {fr : Nat × Nat} (hb : wx.heap[b]? = some (.cells c t fr)) (ht : t ≠ T) : w'.heap[b]? = some (.cells c t fr) := by
  rw [hg.block b (lt_of_blk' hb) (fun e => ?_)]
  · exact hb
  · rcases hown.2 with ⟨e', _⟩ | ⟨g', cap', cur, e', _, hh, _⟩
    · rw [e'] at e; simp [Value.ownBlock] at e
    · rw [e'] at e; simp [Value.ownBlock] at e; subst e
      rw [hh] at hb; cases hb; exact ht rfl

theorem below_new_al {w : World} (o : Obj) : Below w.heap.size w (w.alloc o) := (Below.refl _ _).alloc (Nat.le_refl _) _

/-- What is thinned so far. -/
def thinN (bag : List (Int × Nat)) (h : Nat) (c : Bool) (t : Nat) : List (Int × Nat) := thinZ (bag.zipIdx.take t) h ((lvOf bag h).length % 2) c (fun a => placeB bag a.2 a.1)
theorem thinN_all {bag : List (Int × Nat)} {h t : Nat} {c : Bool} (hl : bag.length ≤ t) : thinN bag h c t = thinB bag h c := by
  unfold thinN thinB
  rw [List.take_of_length_le (by simpa using hl)]
theorem thinN_step {bag : List (Int × Nat)} {h t : Nat} {c : Bool} (ht : t < bag.length) : thinN bag h c (t + 1) = thinN bag h c t ++ thinOne h ((lvOf bag h).length % 2) c (bag.getD t (0, 0)) (placeB bag t (bag.getD t (0, 0))) := by
  have hz : t < bag.zipIdx.length := by simpa using ht
  unfold thinN
  rw [List.take_succ_eq_append_getElem hz]
  have e : bag.zipIdx[t] = (bag.getD t (0, 0), t) := by simp [List.getD, ht]
  rw [e]
  simp [thinZ]
theorem thinOne_le (h odd : Nat) (c : Bool) (a : Int × Nat) (p : Nat) : (thinOne h odd c a p).length ≤ 1 := by
  unfold thinOne
  repeat' split
  all_goals simp
theorem thinN_len {bag : List (Int × Nat)} {h : Nat} {c : Bool} : ∀ {t : Nat}, t ≤ bag.length → (thinN bag h c t).length ≤ t
  | 0, _ => by simp [thinN]
  | t + 1, ht => by
    have h1 := thinN_len (bag := bag) (h := h) (c := c) (t := t) (by omega)
    have h2 := thinOne_le h ((lvOf bag h).length % 2) c (bag.getD t (0, 0)) (placeB bag t (bag.getD t (0, 0)))
    rw [thinN_step (by omega), List.length_append]; omega

/-- As far as thinned has come. -/
structure ThSt (w wr : World) (bx : Array Value) (v : Value) (acc : List (Int × Nat)) : Prop where
  own : wr.ownsRow w.heap.size 126 2 v acc.length (itCells acc)
  bel : Below w.heap.size w wr
  box : wr.heap[w.heap.size]? = some (.cells bx 71 (0, 0))
  res : wr.heap[w.heap.size + 1]? = some rsZero
theorem ThSt.later {w wr w' : World} {bx : Array Value} {v : Value} {acc : List (Int × Nat)} (h : ThSt w wr bx v acc) (hb : Below wr.heap.size wr w') : ThSt w w' bx v acc :=
  ⟨ownsRow_below h.own hb (fun _ e => ownsRow_lt h.own e), h.bel.trans (hb.mono h.bel.size), (hb.block _ (lt_of_blk' h.box)).trans h.box, (hb.block _ (lt_of_blk' h.res)).trans h.res⟩
theorem ThSt.app {w wr wx w' : World} {bx : Array Value} {v v' : Value} {acc acc' : List (Int × Nat)} (h : ThSt w wr bx v acc) (hx : Below wr.heap.size wr wx) (hown : w'.ownsRow w.heap.size 126 2 v' acc'.length (itCells acc')) (hg : wx.grownBy w' v.ownBlock) : ThSt w w' bx v' acc' := by
  have h1 := h.later hx
  exact ⟨hown, h1.bel.grown hg h1.bel.size (fun k e => (h.own.lt _ e).1), grow_keep h1.own hg h1.box (by decide), grow_keep h1.own hg h1.res (by decide)⟩
theorem ThSt.ownAl {w wr : World} {bx : Array Value} {v : Value} {acc : List (Int × Nat)} {m : Nat} (h : ThSt w wr bx v acc) (o : Obj) (hm : m = acc.length) : (wr.alloc o).ownsRow w.heap.size 126 2 v m (itCells acc) := by
  subst hm; exact (h.later (below_new_al o)).own
theorem two_it (w : World) (x : Int) (h : Nat) (t : TypeId) : ∀ j u, (itCells [(x, h)])[j]? = some u → (w.alloc (.cells #[.int .i64 x, .int .i64 (h : Int)] t)).cell? ((⟨w.heap.size, 0, none⟩ : Addr).add j) = some u := two_new w _ _ t
theorem two_up (w : World) (x : Int) (h : Nat) (t : TypeId) : ∀ j u, (itCells [(x, h + 1)])[j]? = some u → (w.alloc (.cells #[.int .i64 x, .int .i64 ((h : Int) + 1)] t)).cell? ((⟨w.heap.size, 0, none⟩ : Addr).add j) = some u := two_it w x (h + 1) t
theorem ThSt.set {w wr : World} {bx : Array Value} {v : Value} {acc : List (Int × Nat)} (h : ThSt w wr bx v acc) {ib : Nat} (hib : w.heap.size + 1 < ib) (hv : ∀ g, v.ownBlock = some g → g ≠ ib) (i : Nat) (u : Value) : ThSt w (wr.setCell ⟨ib, i, none⟩ u) bx v acc :=
  ⟨ownsRow_block h.own (fun g hg => Below.heap_setCell _ _ _ _ (hv g hg)), h.bel.setCell (by show w.heap.size ≤ ib; omega) _, (Below.heap_setCell _ _ _ _ (by show w.heap.size ≠ ib; omega)).trans h.box, (Below.heap_setCell _ _ _ _ (by show w.heap.size + 1 ≠ ib; omega)).trans h.res⟩
theorem ThSt.grown {w wr w' : World} {bx : Array Value} {v : Value} {acc : List (Int × Nat)} (h : ThSt w wr bx v acc) {g : Option Nat} (hg : wr.grownBy w' g) (h1 : ∀ b, g = some b → w.heap.size + 1 < b ∧ ∀ c, v.ownBlock = some c → c ≠ b) : ThSt w w' bx v acc :=
  ⟨ownsRow_block h.own (fun c hc => hg.block c (ownsRow_lt h.own hc) (fun e => (h1 c e.symm).2 c hc rfl)), h.bel.grown hg h.bel.size (fun k e => by have := (h1 k e).1; omega), (hg.block _ (lt_of_blk' h.box) (fun e => by have := (h1 _ e.symm).1; omega)).trans h.box, (hg.block _ (lt_of_blk' h.res) (fun e => by have := (h1 _ e.symm).1; omega)).trans h.res⟩
theorem own_ne {w : World} {base size n b : Nat} {T t : TypeId} {v : Value} {xs : List Value} {c : Array Value} {fr : Nat × Nat} (hown : w.ownsRow base T size v n xs) (hb : w.heap[b]? = some (.cells c t fr)) (ht : t ≠ T) : ∀ g, v.ownBlock = some g → g ≠ b := by
  rintro g hg rfl
  rcases hown.2 with ⟨e', _⟩ | ⟨g', cap', cur, e', _, hh, _⟩
  · rw [e'] at hg; simp [Value.ownBlock] at hg
  · rw [e'] at hg; simp [Value.ownBlock] at hg; subst hg
    rw [hh] at hb; cases hb; exact ht rfl
theorem set9_other {w : World} {s r g : Nat} (x y a b c d e f h : Value) (h1 : g ≠ s) (h2 : g ≠ r) : (((((((((w.setCell ⟨s, 1, none⟩ x).setCell ⟨s, 2, none⟩ y).setCell ⟨r, 0, none⟩ a).setCell ⟨r, 1, none⟩ b).setCell ⟨r, 2, none⟩ c).setCell ⟨r, 3, none⟩ d).setCell ⟨r, 4, none⟩ e).setCell ⟨r, 5, none⟩ f).setCell ⟨r, 6, none⟩ h).heap[g]? = w.heap[g]? := by
  rw [Below.heap_setCell _ _ _ _ h2, Below.heap_setCell _ _ _ _ h2, Below.heap_setCell _ _ _ _ h2, Below.heap_setCell _ _ _ _ h2, Below.heap_setCell _ _ _ _ h2, Below.heap_setCell _ _ _ _ h2, Below.heap_setCell _ _ _ _ h2, Below.heap_setCell _ _ _ _ h1, Below.heap_setCell _ _ _ _ h1]
theorem below_set9 {B s r : Nat} {w0 w : World} (hb : Below B w0 w) (hs : B ≤ s) (hr : B ≤ r) (x y a b c d e f h : Value) : Below B w0 (((((((((w.setCell ⟨s, 1, none⟩ x).setCell ⟨s, 2, none⟩ y).setCell ⟨r, 0, none⟩ a).setCell ⟨r, 1, none⟩ b).setCell ⟨r, 2, none⟩ c).setCell ⟨r, 3, none⟩ d).setCell ⟨r, 4, none⟩ e).setCell ⟨r, 5, none⟩ f).setCell ⟨r, 6, none⟩ h) :=
  ((((((((hb.setCell hs x).setCell hs y).setCell hr a).setCell hr b).setCell hr c).setCell hr d).setCell hr e).setCell hr f).setCell hr h
theorem own_free {w : World} {b g n cap : Nat} {e : TypeId} {xs : List Value} (h : w.ownsRow b e 1 (.slice (some ⟨g, 0, none⟩) n cap) n xs) (j : Nat) : w.frozen? ⟨g, j, none⟩ = false := by
  rcases h.2 with ⟨e', _⟩ | ⟨g', cap', cur, e', _, hh, _⟩
  · cases e'
  · cases e'; simp [World.frozen?, hh]

set_option maxHeartbeats 2000000 in
set_option maxRecDepth 100000 in
theorem rthinned_any (k h : Nat) (vb vt vk : Value) (lo hi : Int) (sl c : Bool) (bag : List (Int × Nat)) (T : List Nat) (w : World) (hB : BagAt w vb bag) (hT : Ints w vt (nats T)) (hl : bag.length ≤ 100000) (hh : h < T.length) (hTl : T.length ≤ 30) (hTb : ∀ j, T.getD j 0 ≤ 4294967296000) (cb : Nat) (hcb : cb = if c then 1 else 0) (hvk : ∃ ko kl kc, vk = .slice ko kl kc) :
    Calls Tryz.prog 110 #[rsVal k vb vt lo hi sl vk, .int .i64 (h : Int), .int .u8 ((48 + cb : Nat) : Int)] w fun e w' => ∃ vb' vt', e = .returned (rsVal k vb' vt' lo hi sl vk) ∧ w'.ownsRow w.heap.size 126 2 vb' (thinB bag h c).length (itCells (thinB bag h c)) ∧ w'.ownsRow w.heap.size 3 1 vt' (thinT T h).length (ints (nats (thinT T h))) ∧ Below w.heap.size w w' := by
  obtain ⟨bo, bcap, rfl, _, _⟩ := hB.form
  obtain ⟨ko, kl, kc, rfl⟩ := hvk
  obtain ⟨ta, tcap, rfl, _, _, _⟩ := hT.form
  obtain ⟨i1, hi1, hy0, hy1, hy2⟩ := info_parts Tryz.infoItem
  obtain ⟨i0, hi0, hz0, hz1, hz2⟩ := info_parts Tryz.infoInt
  have HB := hid hB
  have HTT := hid hT
  have HON := hid (fun (w' : World) (hb : Below w.heap.size w w') => ron_any k h (.slice bo bag.length bcap) (.slice ta (nats T).length tcap) (.slice ko kl kc) lo hi sl bag w' (hB.below hb) hl)
  have HPL := hid (fun (i : Nat) (w' : World) (hb : Below w.heap.size w w') (hi : i < bag.length) => rplace_any i (.slice bo bag.length bcap) bag w' (hB.below hb) hi hl)
  have HTN := hid (fun t ht => thinN_step (bag := bag) (h := h) (c := c) (t := t) ht)
  have HTA := hid (thinN_all (bag := bag) (h := h) (c := c) (Nat.le_refl _))
  have HTE := hid (fun t ht => thinN_len (bag := bag) (h := h) (c := c) (t := t) ht)
  have hln := lvOf_le bag h
  have HT0 : Hid (thinN bag h c 0 = []) := by simp [Hid, thinN]
  have hcb1 : cb ≤ 1 := by rw [hcb]; split <;> omega
  have HCB := hid hcb
  clear hcb
  generalize hodd : (lvOf bag h).length = on at *
  generalize hne : bag.length = n at *
  simp only [nats_length] at *
  have hth := hTb h
  have HCL : Hid ((ints (nats T))[h]? = some (.int .i64 ((T.getD h 0 : Nat) : Int))) := by
    simp only [Hid, ints, nats, List.getElem?_map, List.getD]
    rw [List.getElem?_eq_getElem hh]; rfl
  have HCS : Hid ((ints (nats T)).set h (.int .i64 ((T.getD h 0 : Nat) + 1 : Int)) = ints (nats (T.set h (T.getD h 0 + 1)))) := by
    simp only [Hid, ints, nats, List.map_set]; rfl
  have HTT2 : Hid (thinT T h = T.set h (T.getD h 0 + 1) ++ (if h + 1 = T.length then [0] else [])) := rfl
  generalize T.getD h 0 = th at *
  generalize htl : T.length = tl at *
  have HTL : Hid (tl = (nats T).length) := by rw [Hid, nats_length, htl]
  have HTG : Hid (∀ x, (T.set h x).length = tl) := by intro x; rw [List.length_set, htl]
  clear htl hTb
  have HN := hid hne
  obtain ⟨od, hod⟩ : ∃ od, od = on % 2 := ⟨_, rfl⟩
  rw [← hod] at HTN
  have hodi : (on : Int) % 2 = (od : Int) := by omega
  have hod1 : od ≤ 1 := by omega
  have HODI := hid hodi
  clear hB hT hne hodd hod hodi
  go_enter Tryz.func110, Tryz.ntmps110
  go_wp2_with fail
  refine (HON.out _ (((Below.refl w.heap.size w).alloc (Nat.le_refl _) _).alloc (by simp) _)).mono ?_
  rintro e w1 ⟨rfl, hb1⟩
  have HS1 : Hid (ThSt w w1 #[.int .i64 (k : Int), .slice bo n bcap, .slice ta tl tcap, .int .i64 lo, .int .i64 hi, .bool sl, .slice ko kl kc] (.slice none 0 0) (thinN bag h c 0)) := by
    rw [HT0.out]
    refine ⟨World.ownsRow_nil _ _ _ _, (((Below.refl w.heap.size w).alloc (Nat.le_refl _) _).alloc (by simp) _).trans (hb1.mono (by simp; omega)), ?_, ?_⟩
    · rw [hb1.block _ (by simp; omega), Below.heap_alloc _ _ _ (by simp)]; exact heap_alloc_new _ _
    · rw [hb1.block _ (by simp), show w.heap.size + 1 = (w.alloc (rsBlk k (.slice bo n bcap) (.slice ta tl tcap) lo hi sl (.slice ko kl kc))).heap.size by simp]
      exact heap_alloc_new _ _
  clear hb1 HON
  go_wp2_with fail
  simp only [HODI.out]
  clear HODI
  go_loopw [9, 10] (fun sv si wr => ∃ (j : Nat) (ao : Option Addr) (m cp : Nat), j ≤ n ∧ si = .int .i64 j ∧ sv = .slice ao m cp ∧ Hid (m = (thinN bag h c j).length) ∧ Hid (ThSt w wr #[.int .i64 (k : Int), .slice bo n bcap, .slice ta tl tcap, .int .i64 lo, .int .i64 hi, .bool sl, .slice ko kl kc] (.slice ao m cp) (thinN bag h c j))) (fun _ si _ => n - (intOf si).toNat)
  case atStart => exact ⟨0, none, 0, 0, Nat.zero_le _, rfl, rfl, by rw [Hid, HT0.out]; rfl, HS1⟩
  case round =>
    obtain ⟨j, ao, m, cp, hj, rfl, rfl, Hm, Hs⟩ := hrel
    clear HS1
    obtain ⟨c0, c1, c2, c3, c4, c5, c6, cz⟩ := blk7' Hs.out.box
    have hsz := lt_of_blk' Hs.out.box
    by_cases hlt : j < n
    · have hlt' : j < bag.length := by rw [HN.out]; exact hlt
      obtain ⟨g, rfl, hg, hx, hh2⟩ := HB.out.cells hlt'
      have hx' := (Hs.out.bel.cell (p := ⟨g, j * 2, none⟩) hg).trans hx
      have hh' := (Hs.out.bel.cell (p := ⟨g, j * 2 + 1, none⟩) hg).trans hh2
      have HSJ := hid (HTN.out j hlt)
      have hel := HTE.out j (by omega)
      rw [← Hm.out] at hel
      have HPJ := hid (fun (w' : World) (hb : Below w.heap.size w w') => HPL.out j w' hb hlt)
      have hpb := placeN_le bag j (bag.getD j (0, 0)) n
      rw [placeN_all (by rw [HN.out]; exact Nat.le_refl _)] at hpb
      generalize placeB bag j (bag.getD j (0, 0)) = pl at *
      generalize bag.getD j (0, 0) = z at *
      obtain ⟨zx, zh⟩ := z
      simp only at hx' hh' HSJ
      clear hx hh2
      have HSJ2 : Hid (thinN bag h c (j + 1) = thinN bag h c j ++ thinOne h od c (zx, zh) pl) := HSJ.out
      by_cases h1 : zh = h
      · have h1' : ((zh : Int) == (h : Int)) = true := by simp [h1]
        go_upto_region 9 with fail
        have HSA := hid (Hs.out.later (below_new_al (.cells #[.int .i64 zx, .int .i64 (h : Int)] 126)))
        have HIB := hid (heap_alloc_new wr (.cells #[.int .i64 zx, .int .i64 (h : Int)] 126))
        have HNE : Hid (∀ g, (Value.slice ao m cp).ownBlock = some g → g ≠ wr.heap.size) := fun g hg => Nat.ne_of_lt (ownsRow_lt Hs.out.own hg)
        have HIZ : Hid (w.heap.size + 1 < wr.heap.size) := lt_of_blk' Hs.out.res
        generalize wr.alloc (.cells #[.int .i64 zx, .int .i64 (h : Int)] 126) = WA at *
        generalize wr.heap.size = ib at *
        clear c0 c1 c2 c3 c4 c5 c6 cz hx' hh'
        obtain ⟨c0, c1, c2, c3, c4, c5, c6, cz⟩ := blk7' HSA.out.box
        go_wp2_with fail
        refine (HPJ.out _ HSA.out.bel).mono ?_
        rintro e w2 ⟨rfl, hb2⟩
        have HSW := hid (HSA.out.later hb2)
        have HIB2 := hid ((hb2.block _ (lt_of_blk' HIB.out)).trans HIB.out)
        clear hb2 HSA HIB c0 c1 c2 c3 c4 c5 c6 cz
        obtain ⟨d0, d1, dz⟩ := blk2 HIB2.out
        have hibz := lt_of_blk' HIB2.out
        by_cases h2 : pl < od
        · have hp0 : ¬ ((od : Int) ≤ (pl : Int)) := by omega
          have HF : Hid (thinN bag h c (j + 1) = thinN bag h c j ++ [(zx, h)]) := by rw [Hid, HSJ2.out]; unfold thinOne; simp only; rw [if_pos h1, if_pos h2, h1]
          go_wp2_with (at_builtin; refine wpList_append_lies _ rfl (.tmp 56) (.tmp 58) 68 rfl w.heap.size 126 i1 (.agg #[.int .i64 0, .int .i64 0]) 2 16 Tryz.underlying68 hi1 hy0 hy1 hy2 rfl (by decide) (.slice ao m cp) m (itCells (thinN bag h c j)) rfl (HSW.out.ownAl _ Hm.out) ⟨w2.heap.size, 0, none⟩ 1 1 (itCells [(zx, h)]) rfl rfl (two_it _ _ _ _) (itCells_one _) (by decide) (by unfold maxLen; omega) (by omega) (by have := HSW.out.bel.size; simp; omega) (w2.heap.size + 1) (by simp) ?_; intro g6 cap6 w6 hown6 hgrow6 hat6 hlt6; have HS6 : Hid (ThSt w w6 #[.int .i64 (k : Int), .slice (some ⟨g, 0, none⟩) n bcap, .slice ta tl tcap, .int .i64 lo, .int .i64 hi, .bool sl, .slice ko kl kc] (.slice (some ⟨g6, 0, none⟩) (m + 1) cap6) (thinN bag h c (j + 1))) := (by rw [HF.out]; refine HSW.out.app (below_new_al _) ?_ hgrow6; rw [itCells_append, List.length_append, ← Hm.out]; exact hown6); clear hown6 hgrow6 hat6 hlt6)
          go_roundw
          case rel => exact ⟨j + 1, _, _, _, by omega, by go_num, rfl, by rw [Hid, HF.out, List.length_append, ← Hm.out]; rfl, HS6⟩
          case measure => simp [intOf]; omega
        · have hp0 : (od : Int) ≤ (pl : Int) := by omega
          have hcc : ((48 + cb : Nat) : Int) - 48 = (cb : Int) := by omega
          by_cases h3 : (pl - od) % 2 = cb
          · have h3' : ((pl : Int) - (od : Int)) % 2 = (cb : Int) := by omega
            have h4 : (((pl : Int) - (od : Int)) % 2 != (cb : Int)) = false := by simp [bne]; omega
            have HF : Hid (thinN bag h c (j + 1) = thinN bag h c j ++ [(zx, h + 1)]) := by rw [Hid, HSJ2.out]; unfold thinOne; simp only; rw [if_pos h1, if_neg h2, if_pos (by rw [← HCB.out]; exact h3)]
            go_upto_region 13 with fail
            have HS3 := hid (HSW.out.set HIZ.out HNE.out 1 (.int .i64 ((h : Int) + 1)))
            have HB3 := hid (blk_set (i := 1) (.int .i64 ((h : Int) + 1)) HIB2.out)
            clear d0 d1 dz hibz HSW HIB2
            generalize w2.setCell ⟨ib, 1, none⟩ (.int .i64 ((h : Int) + 1)) = w3 at *
            simp only [List.setIfInBounds_toArray, List.set_cons_succ, List.set_cons_zero] at HB3
            obtain ⟨d0, d1, dz⟩ := blk2 HB3.out
            have hibz := lt_of_blk' HB3.out
            go_wp2_with (at_builtin; refine wpList_append_lies _ rfl (.tmp 56) (.tmp 58) 68 rfl w.heap.size 126 i1 (.agg #[.int .i64 0, .int .i64 0]) 2 16 Tryz.underlying68 hi1 hy0 hy1 hy2 rfl (by decide) (.slice ao m cp) m (itCells (thinN bag h c j)) rfl (HS3.out.ownAl _ Hm.out) ⟨w3.heap.size, 0, none⟩ 1 1 (itCells [(zx, h + 1)]) rfl rfl (two_up _ _ _ _) (itCells_one _) (by decide) (by unfold maxLen; omega) (by omega) (by have := HS3.out.bel.size; simp; omega) (w3.heap.size + 1) (by simp) ?_; intro g6 cap6 w6 hown6 hgrow6 hat6 hlt6; have HS6 : Hid (ThSt w w6 #[.int .i64 (k : Int), .slice (some ⟨g, 0, none⟩) n bcap, .slice ta tl tcap, .int .i64 lo, .int .i64 hi, .bool sl, .slice ko kl kc] (.slice (some ⟨g6, 0, none⟩) (m + 1) cap6) (thinN bag h c (j + 1))) := (by rw [HF.out]; refine HS3.out.app (below_new_al _) ?_ hgrow6; rw [itCells_append, List.length_append, ← Hm.out]; exact hown6); clear hown6 hgrow6 hat6 hlt6)
            go_roundw
            case rel => exact ⟨j + 1, _, _, _, by omega, by go_num, rfl, by rw [Hid, HF.out, List.length_append, ← Hm.out]; rfl, HS6⟩
            case measure => simp [intOf]; omega
          · have h4 : (((pl : Int) - (od : Int)) % 2 != (cb : Int)) = true := by simp [bne]; omega
            have HF : Hid (thinN bag h c (j + 1) = thinN bag h c j) := by rw [Hid, HSJ2.out]; unfold thinOne; simp only; rw [if_pos h1, if_neg h2, if_neg (by rw [← HCB.out]; exact h3), List.append_nil]
            go_wp2_with fail
            go_roundw
            case rel => exact ⟨j + 1, _, _, _, by omega, by go_num, rfl, by rw [Hid, HF.out]; exact Hm.out, by rw [HF.out]; exact HSW⟩
            case measure => simp [intOf]; omega
      · have h1' : ((zh : Int) == (h : Int)) = false := by simp; omega
        have HF : Hid (thinN bag h c (j + 1) = thinN bag h c j ++ [(zx, zh)]) := by rw [Hid, HSJ2.out]; unfold thinOne; simp only; rw [if_neg h1]
        go_upto_region 8 with fail
        have HSA := hid (Hs.out.later (below_new_al (.cells #[.int .i64 zx, .int .i64 (zh : Int)] 126)))
        have HIB := hid (heap_alloc_new wr (.cells #[.int .i64 zx, .int .i64 (zh : Int)] 126))
        generalize wr.alloc (.cells #[.int .i64 zx, .int .i64 (zh : Int)] 126) = WA at *
        generalize wr.heap.size = ib at *
        clear c0 c1 c2 c3 c4 c5 c6 cz hx' hh'
        obtain ⟨d0, d1, dz⟩ := blk2 HIB.out
        have hibz := lt_of_blk' HIB.out
        go_wp2_with (at_builtin; refine wpList_append_lies _ rfl (.tmp 56) (.tmp 58) 68 rfl w.heap.size 126 i1 (.agg #[.int .i64 0, .int .i64 0]) 2 16 Tryz.underlying68 hi1 hy0 hy1 hy2 rfl (by decide) (.slice ao m cp) m (itCells (thinN bag h c j)) rfl (HSA.out.ownAl _ Hm.out) ⟨WA.heap.size, 0, none⟩ 1 1 (itCells [(zx, zh)]) rfl rfl (two_it _ _ _ _) (itCells_one _) (by decide) (by unfold maxLen; omega) (by omega) (by have := HSA.out.bel.size; simp; omega) (WA.heap.size + 1) (by simp) ?_; intro g6 cap6 w6 hown6 hgrow6 hat6 hlt6; have HS6 : Hid (ThSt w w6 #[.int .i64 (k : Int), .slice (some ⟨g, 0, none⟩) n bcap, .slice ta tl tcap, .int .i64 lo, .int .i64 hi, .bool sl, .slice ko kl kc] (.slice (some ⟨g6, 0, none⟩) (m + 1) cap6) (thinN bag h c (j + 1))) := (by rw [HF.out]; refine HSA.out.app (below_new_al _) ?_ hgrow6; rw [itCells_append, List.length_append, ← Hm.out]; exact hown6); clear hown6 hgrow6 hat6 hlt6)
        go_roundw
        case rel => exact ⟨j + 1, _, _, _, by omega, by go_num, rfl, by rw [Hid, HF.out, List.length_append, ← Hm.out]; rfl, HS6⟩
        case measure => simp [intOf]; omega
    · obtain rfl : j = n := by omega
      have HSN : Hid (ThSt w wr #[.int .i64 (k : Int), .slice bo j bcap, .slice ta tl tcap, .int .i64 lo, .int .i64 hi, .bool sl, .slice ko kl kc] (.slice ao m cp) (thinB bag h c)) := by rw [Hid, ← HTA.out]; exact Hs.out
      have HNE : Hid (∀ g, (Value.slice ao m cp).ownBlock = some g → g ≠ wr.heap.size) := fun g hg => Nat.ne_of_lt (ownsRow_lt Hs.out.own hg)
      have HIZ : Hid (w.heap.size + 1 < wr.heap.size) := lt_of_blk' Hs.out.res
      have HTR := hid (HTT.out.below (Hs.out.bel))
      clear Hs HTN HTE HPL HT0 HB HTA
      go_upto_region 16 with (at_make; refine wpList_make_full _ rfl _ _ 28 rfl w.heap.size 3 i0 (.int .i64 0) 1 Tryz.underlying28 hi0 hz0 hz1 _ _ _ _ tl rfl rfl (by rfl) (by rfl) (by rw [hz2]; omega) (by unfold maxLen; omega) (by omega) ?_; intro w7 hown7 hgrow7; have hb7 : Below wr.heap.size wr w7 := (Below.refl _ _).grown hgrow7 (Nat.le_refl _) (fun k h => by cases h); obtain ⟨w8, hrun, hown8, hgrow8⟩ := run_copy_ints w7 i0 hi0 hz1 hown7 (HTR.out.below hb7) HTL.out; have HO8 := hid hown8; have HS8 := hid ((HSN.out.later hb7).grown hgrow8 (fun b hb => by cases hb; exact ⟨HIZ.out, HNE.out⟩)); clear c0 c1 c2 c3 c4 c5 c6 cz; obtain ⟨c0, c1, c2, c3, c4, c5, c6, cz⟩ := blk7' (HSN.out.later hb7).box; clear hown7 hgrow7 hb7 hown8 hgrow8)
      have e8 := ownsRow_cell HO8.out HCL.out
      have f8 := own_free HO8.out h
      have HS9 := hid (HS8.out.set HIZ.out HNE.out h (.int .i64 ((th : Int) + 1)))
      have HO9 := hid (HO8.out.stored h (.int .i64 ((th : Int) + 1))).1
      rw [HCS.out] at HO9
      have hwz : wr.heap.size < w8.heap.size := ownsRow_lt HO8.out rfl
      clear c0 c1 c2 c3 c4 c5 c6 cz hrun
      go_upto_region 17 with fail
      clear e8 f8 HO8 HS8 hwz
      generalize w8.setCell ⟨wr.heap.size, h, none⟩ (.int .i64 ((th : Int) + 1)) = w9 at *
      by_cases hq : h + 1 = tl
      · have hq' : ((h : Int) + 1 == (tl : Int)) = true := by simp; omega
        have HTF : Hid (thinT T h = T.set h (th + 1) ++ [0]) := by rw [Hid, HTT2.out, if_pos hq]
        go_upto_region 19 with (at_builtin; refine wpList_append_lies _ rfl (.tmp 79) (.tmp 80) 28 rfl w.heap.size 3 i0 (.int .i64 0) 1 8 Tryz.underlying28 hi0 hz0 hz1 hz2 rfl (by decide) (.slice (some ⟨wr.heap.size, 0, none⟩) tl tl) tl (ints (nats (T.set h (th + 1)))) rfl (HO9.out.alloc _) ⟨w9.heap.size, 0, none⟩ 1 1 [.int .i64 0] rfl rfl (one_new _ _ _) (one_cell _ _) (by decide) (by unfold maxLen; omega) (by omega) (by have := HS9.out.bel.size; simp; omega) (w9.heap.size + 1) (by simp) ?_; intro g6 cap6 w6 hown6 hgrow6 hat6 hlt6; have HS6 := hid ((HS9.out.later (below_new_al _)).grown hgrow6 (fun b hb => by cases hb; exact ⟨HIZ.out, HNE.out⟩)); have HO6 := hid hown6; clear hown6 hgrow6 hat6 hlt6)
        clear HS9 HO9
        obtain ⟨c0, c1, c2, c3, c4, c5, c6, cz⟩ := blk7' HS6.out.box
        obtain ⟨r0, r1, r2, r3, r4, r5, r6, rz⟩ := blk7' HS6.out.res
        have hsz2 := lt_of_blk' HS6.out.res
        go_wp2_with fail
        refine bodyPost_ret (v := rsVal k (.slice ao m cp) (.slice (some ⟨g6, 0, none⟩) (tl + 1) cap6) lo hi sl (.slice ko kl kc)) (by simp [results, Tryz.results110, go_sem, r0, r1, r2, r3, r4, r5, r6]) rfl ⟨_, _, rfl, ?_, ?_, below_set9 HS6.out.bel (Nat.le_refl _) (by omega) _ _ _ _ _ _ _ _ _⟩
        · exact ownsRow_block HS6.out.own (fun g hg => set9_other _ _ _ _ _ _ _ _ _ (own_ne HS6.out.own HS6.out.box (by decide) g hg) (own_ne HS6.out.own HS6.out.res (by decide) g hg))
        · rw [HTF.out, List.length_append, HTG.out]
          refine ownsRow_block ?_ (fun g hg => set9_other _ _ _ _ _ _ _ _ _ (own_ne HO6.out HS6.out.box (by decide) g hg) (own_ne HO6.out HS6.out.res (by decide) g hg))
          simpa [nats, ints] using HO6.out
      · have hq' : ((h : Int) + 1 == (tl : Int)) = false := by simp; omega
        have HTF : Hid (thinT T h = T.set h (th + 1)) := by rw [Hid, HTT2.out, if_neg hq, List.append_nil]
        obtain ⟨c0, c1, c2, c3, c4, c5, c6, cz⟩ := blk7' HS9.out.box
        obtain ⟨r0, r1, r2, r3, r4, r5, r6, rz⟩ := blk7' HS9.out.res
        have hsz2 := lt_of_blk' HS9.out.res
        go_wp2_with fail
        refine bodyPost_ret (v := rsVal k (.slice ao m cp) (.slice (some ⟨wr.heap.size, 0, none⟩) tl tl) lo hi sl (.slice ko kl kc)) (by simp [results, Tryz.results110, go_sem, r0, r1, r2, r3, r4, r5, r6]) rfl ⟨_, _, rfl, ?_, ?_, below_set9 HS9.out.bel (Nat.le_refl _) (by omega) _ _ _ _ _ _ _ _ _⟩
        · exact ownsRow_block HS9.out.own (fun g hg => set9_other _ _ _ _ _ _ _ _ _ (own_ne HS9.out.own HS9.out.box (by decide) g hg) (own_ne HS9.out.own HS9.out.res (by decide) g hg))
        · rw [HTF.out, HTG.out]
          exact ownsRow_block HO9.out (fun g hg => set9_other _ _ _ _ _ _ _ _ _ (own_ne HO9.out HS9.out.box (by decide) g hg) (own_ne HO9.out HS9.out.res (by decide) g hg))

end Go.Proofs.YtklicjbpjigfdabGreat
