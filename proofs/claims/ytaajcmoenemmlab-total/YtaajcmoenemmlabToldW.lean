/- DERIVED. The walk of told: what a text says, read into memory. -/
import Derived.Test.YtaajcmoenemmlabReadW
import Derived.Test.YtaajcmoenemmlabToldP
import Derived.Test.YtaajcmoenemmlabMakeW
import Derived.Test.YtaajcmoenemmlabThinP
import Derived.Deep.DrawnRows
import Derived.Deep.RegionWith
import Derived.Deep.Cut
import Derived.Deep.CutRange
namespace Go.Proofs.Ytaajcmoenemmlab
open Go.RowKit
variable {F : Nat → Prop}
attribute [local go_sem ↓] Go.wp_at_zero Go.wp_at_succ

theorem LvAt.blockF {w w' : World} {g cap : Nat} {vs : List Value} {L : List Lvl} (h : LvAt F w g cap vs L) (hb : ∀ b, (b = g ∨ (F b ∧ ∃ c, w.heap[b]? = some (.cells c 3 (0, 0)))) → w'.heap[b]? = w.heap[b]?) : LvAt F w' g cap vs L := by
  refine ⟨ownsRow_block h.row (fun b hg => hb b (.inl ?_)), h.len, fun j hj => (h.its j hj).block (fun b hg => hb b (.inr ⟨h.fp j hj b hg, ?_⟩)), h.fp⟩
  · simp [Value.ownBlock] at hg; exact hg.symm
  · exact (h.its j hj).kind hg

theorem LvAt.wider {G : Nat → Prop} {w : World} {g cap : Nat} {vs : List Value} {L : List Lvl} (h : LvAt F w g cap vs L) (hFG : ∀ b, F b → G b) : LvAt G w g cap vs L := ⟨h.row, h.len, h.its, fun j hj b e => hFG b (h.fp j hj b e)⟩

abbrev skZero : Obj := .cells #[.int .i64 0, .slice none 0 0, .int .i64 0, .int .i64 0] 56 (0, 0)

/-- Where told stands: block R is its result, p the reader, b0 the sketch; gs the sizes, gl the levels. -/
structure TdSt (F : Nat → Prop) (R p b0 : Nat) (t : ByteArray) (w : World) (k : Nat) (gs n gl : Nat) (r : List Nat) (lo hi : Int) (szs : List Int) (L : List Lvl) (wr : World) : Prop where
  res : wr.heap[R]? = some skZero
  rd : RdAt wr p t r
  sk : wr.heap[b0]? = some (skBlk k gl n n lo hi)
  sz : wr.ownsRow 0 3 1 (.slice (some ⟨gs, 0, none⟩) n n) n (ints szs)
  lv : ∃ vs, LvAt (fun b => F b ∧ b ≠ gs) wr gl n vs L
  len : L.length = n
  hs : b0 < gs
  hl : b0 < gl
  bel : Below R w wr
  hp : R < p
  hb : p < b0

theorem TdSt.ne {R p b0 : Nat} {t : ByteArray} {w : World} {k gs n gl : Nat} {r : List Nat} {lo hi : Int} {szs : List Int} {L : List Lvl} {wr : World} (h : TdSt F R p b0 t w k gs n gl r lo hi szs L wr) : gs ≠ gl := by
  obtain ⟨vs, hL⟩ := h.lv
  have hp := h.hp
  have hb0 := h.hb
  rcases h.sz.2 with ⟨e, _⟩ | ⟨g', cap', cur', hv, _, hh, _⟩
  · cases e
  · cases hv; exact hL.ne hh (by decide)
/-- The reader goes on. -/
theorem TdSt.next {R p b0 : Nat} {t : ByteArray} {w : World} {k gs n gl : Nat} {r r' : List Nat} {lo hi : Int} {szs : List Int} {L : List Lvl} {wr w' : World} (h : TdSt F R p b0 t w k gs n gl r lo hi szs L wr) (hr : RdAt w' p t r') (hf : Fr (fun b => b = p) wr w') : TdSt F R p b0 t w k gs n gl r' lo hi szs L w' := by
  obtain ⟨vs, hL⟩ := h.lv
  have hp := h.hp
  have hb0 := h.hb
  refine ⟨(hf.block _ (lt_of_blk' h.res) (by omega)).trans h.res, hr, (hf.block _ (lt_of_blk' h.sk) (by omega)).trans h.sk, ownsRow_block h.sz (fun g e => by simp [Value.ownBlock] at e; subst e; exact hf.block _ (ownsRow_lt h.sz rfl) (by have := h.hs; omega)), ⟨vs, hL.blockF (fun b hb => ?_)⟩, h.len, h.hs, h.hl, h.bel.trans (hf.toBelow (Nat.le_of_lt (lt_of_blk' h.res)) (fun b e => by have := h.hp; omega)), h.hp, h.hb⟩
  rcases hb with rfl | ⟨_, c, hc⟩
  · exact hf.block _ hL.lt (by have := h.hl; omega)
  · refine hf.block _ (lt_of_blk' hc) (fun e => ?_)
    subst e
    obtain ⟨a, _, hb, _⟩ := h.rd
    rw [hb] at hc; cases hc
/-- A size is read. -/
theorem TdSt.size {R p b0 : Nat} {t : ByteArray} {w : World} {k gs n gl : Nat} {r : List Nat} {lo hi : Int} {szs : List Int} {L : List Lvl} {wr : World} (h : TdSt F R p b0 t w k gs n gl r lo hi szs L wr) (j : Nat) (x : Int) : TdSt F R p b0 t w k gs n gl r lo hi (szs.set j x) L (wr.setCell ⟨gs, j, none⟩ (.int .i64 x)) := by
  obtain ⟨vs, hL⟩ := h.lv
  have hp := h.hp
  have hb0 := h.hb
  have hne := h.ne
  have hst := (h.sz.stored j (.int .i64 x)).1
  have hgs := h.hs
  refine ⟨(Below.heap_setCell _ _ _ _ (by simp; omega)).trans h.res, h.rd.keep (Below.heap_setCell _ _ _ _ (by simp; omega)), (Below.heap_setCell _ _ _ _ (by simp; omega)).trans h.sk, ?_, ⟨vs, hL.blockF (fun b hb => Below.heap_setCell _ _ _ _ ?_)⟩, h.len, h.hs, h.hl, h.bel.setCell (by simp; omega) _, h.hp, h.hb⟩
  · rw [show (ints szs).set j (.int .i64 x) = ints (szs.set j x) by simp [ints, List.map_set]] at hst
    exact hst
  · rcases hb with rfl | ⟨⟨_, hb⟩, _⟩
    · exact Ne.symm hne
    · exact hb
/-- Times are read. -/
theorem TdSt.times {R p b0 : Nat} {t : ByteArray} {w : World} {k gs n gl : Nat} {r : List Nat} {lo hi : Int} {szs : List Int} {L : List Lvl} {wr : World} (h : TdSt F R p b0 t w k gs n gl r lo hi szs L wr) {j : Nat} (hj : j < n) (x : Nat) : TdSt F R p b0 t w k gs n gl r lo hi szs (setTimes L j x) (wr.setCell ⟨gl, j * 2 + 1, none⟩ (.int .i64 (x : Int))) := by
  obtain ⟨vs, hL⟩ := h.lv
  have hp := h.hp
  have hb0 := h.hb
  have hne := h.ne
  have hgl := h.hl
  exact ⟨(Below.heap_setCell _ _ _ _ (by simp; omega)).trans h.res, h.rd.keep (Below.heap_setCell _ _ _ _ (by simp; omega)), (Below.heap_setCell _ _ _ _ (by simp; omega)).trans h.sk, ownsRow_block h.sz (fun g e => by simp [Value.ownBlock] at e; subst e; exact Below.heap_setCell _ _ _ _ hne), ⟨vs, hL.setTimes (by rw [h.len]; exact hj)⟩, by rw [setTimes_length]; exact h.len, h.hs, h.hl, h.bel.setCell (by simp; omega) _, h.hp, h.hb⟩
/-- Items are read. -/
theorem TdSt.items {R p b0 : Nat} {t : ByteArray} {w : World} {k gs n gl : Nat} {r : List Nat} {lo hi : Int} {szs : List Int} {L : List Lvl} {wr : World} (h : TdSt F R p b0 t w k gs n gl r lo hi szs L wr) {j : Nat} (hj : j < n) {v : Value} {xs : List Int} (hv : Ints wr v xs) (hF : ∀ b, v.ownBlock = some b → F b ∧ b ≠ gs) : TdSt F R p b0 t w k gs n gl r lo hi szs (setItems L j xs) (wr.setCell ⟨gl, j * 2, none⟩ v) := by
  obtain ⟨vs, hL⟩ := h.lv
  have hp := h.hp
  have hb0 := h.hb
  have hne := h.ne
  have hgl := h.hl
  exact ⟨(Below.heap_setCell _ _ _ _ (by simp; omega)).trans h.res, h.rd.keep (Below.heap_setCell _ _ _ _ (by simp; omega)), (Below.heap_setCell _ _ _ _ (by simp; omega)).trans h.sk, ownsRow_block h.sz (fun g e => by simp [Value.ownBlock] at e; subst e; exact Below.heap_setCell _ _ _ _ hne), ⟨_, hL.setItems hv hF (by rw [h.len]; exact hj)⟩, by rw [setItems_length]; exact h.len, h.hs, h.hl, h.bel.setCell (by simp; omega) _, h.hp, h.hb⟩
theorem TdSt.setSk {R p b0 : Nat} {t : ByteArray} {w : World} {k gs n gl : Nat} {r : List Nat} {lo hi lo' hi' : Int} {szs : List Int} {L : List Lvl} {wr : World} (h : TdSt F R p b0 t w k gs n gl r lo hi szs L wr) (i : Nat) (v : Value) (hb : (wr.setCell ⟨b0, i, none⟩ v).heap[b0]? = some (skBlk k gl n n lo' hi')) : TdSt F R p b0 t w k gs n gl r lo' hi' szs L (wr.setCell ⟨b0, i, none⟩ v) := by
  obtain ⟨vs, hL⟩ := h.lv
  have hp := h.hp
  have hb0 := h.hb
  have hgl := h.hl
  have hgs := h.hs
  refine ⟨(Below.heap_setCell _ _ _ _ (by simp; omega)).trans h.res, h.rd.keep (Below.heap_setCell _ _ _ _ (by simp; omega)), hb, ownsRow_block h.sz (fun g e => by simp [Value.ownBlock] at e; subst e; exact Below.heap_setCell _ _ _ _ (by simp; omega)), ⟨vs, hL.blockF (fun b hb' => Below.heap_setCell _ _ _ _ ?_)⟩, h.len, h.hs, h.hl, h.bel.setCell (by simp; omega) _, h.hp, h.hb⟩
  rcases hb' with rfl | ⟨_, c, hc⟩
  · simp; omega
  · intro e
    simp at e
    subst e
    rw [h.sk] at hc; cases hc
theorem TdSt.lo {R p b0 : Nat} {t : ByteArray} {w : World} {k gs n gl : Nat} {r : List Nat} {lo hi : Int} {szs : List Int} {L : List Lvl} {wr : World} (h : TdSt F R p b0 t w k gs n gl r lo hi szs L wr) (x : Int) : TdSt F R p b0 t w k gs n gl r x hi szs L (wr.setCell ⟨b0, 2, none⟩ (.int .i64 x)) :=
  h.setSk 2 _ ((blk_set (i := 2) _ h.sk).trans (by simp))
theorem TdSt.hi {R p b0 : Nat} {t : ByteArray} {w : World} {k gs n gl : Nat} {r : List Nat} {lo hi : Int} {szs : List Int} {L : List Lvl} {wr : World} (h : TdSt F R p b0 t w k gs n gl r lo hi szs L wr) (x : Int) : TdSt F R p b0 t w k gs n gl r lo x szs L (wr.setCell ⟨b0, 3, none⟩ (.int .i64 x)) :=
  h.setSk 3 _ ((blk_set (i := 3) _ h.sk).trans (by simp))
/-- What lies there, cell by cell. -/
theorem TdSt.cells {R p b0 : Nat} {t : ByteArray} {w : World} {k gs n gl : Nat} {r : List Nat} {lo hi : Int} {szs : List Int} {L : List Lvl} {wr : World} (h : TdSt F R p b0 t w k gs n gl r lo hi szs L wr) :
    wr.cell? ⟨b0, 0, none⟩ = some (.int .i64 (k : Int)) ∧ wr.cell? ⟨b0, 1, none⟩ = some (.slice (some ⟨gl, 0, none⟩) n n) ∧ wr.cell? ⟨b0, 2, none⟩ = some (.int .i64 lo) ∧ wr.cell? ⟨b0, 3, none⟩ = some (.int .i64 hi) ∧ (∀ o, wr.frozen? ⟨b0, o, none⟩ = false) := blk4 h.sk
theorem TdSt.szCell {R p b0 : Nat} {t : ByteArray} {w : World} {k gs n gl : Nat} {r : List Nat} {lo hi : Int} {szs : List Int} {L : List Lvl} {wr : World} (h : TdSt F R p b0 t w k gs n gl r lo hi szs L wr) {j : Nat} (hj : j < n) : wr.cell? ⟨gs, j, none⟩ = some (.int .i64 (szs.getD j 0)) ∧ (∀ o, wr.frozen? ⟨gs, o, none⟩ = false) := by
  have hl : szs.length = n := by have := h.sz.1; rw [ints_length] at this; omega
  refine ⟨ownsRow_cell h.sz (by simp [ints, List.getD, hl, hj]), fun o => ?_⟩
  rcases h.sz.2 with ⟨e, _⟩ | ⟨g', c', cur, e, _, hh, _⟩
  · cases e
  · cases e; simp [World.frozen?, hh]
theorem TdSt.lvCell {R p b0 : Nat} {t : ByteArray} {w : World} {k gs n gl : Nat} {r : List Nat} {lo hi : Int} {szs : List Int} {L : List Lvl} {wr : World} (h : TdSt F R p b0 t w k gs n gl r lo hi szs L wr) {j : Nat} (hj : j < n) : (∃ u, wr.cell? ⟨gl, j * 2, none⟩ = some u ∧ u.oneCell' = true) ∧ (∃ u : Int, wr.cell? ⟨gl, j * 2 + 1, none⟩ = some (.int .i64 u)) ∧ (∀ o, wr.frozen? ⟨gl, o, none⟩ = false) := by
  obtain ⟨vs, hL⟩ := h.lv
  have hp := h.hp
  have hb0 := h.hb
  have hj' : j < L.length := by rw [h.len]; exact hj
  obtain ⟨ao, c, e⟩ := hL.itemsForm hj'
  exact ⟨⟨_, hL.cell0 hj', by rw [e]; rfl⟩, ⟨_, hL.cell1 hj'⟩, hL.free⟩

theorem made_szs (n : Nat) (hs : List (Nat × Nat)) : (madeCells (Value.int .i64 0).cells (n * 1)).toList = ints (szA hs 0 n) := by
  rw [made_zeros n []]; simp [rowAt, szA, toldNums]
theorem lvCells_rep : ∀ n : Nat, lvCells (List.replicate n (Value.slice none 0 0)) (List.replicate n Lvl.none) = (List.replicate n [Value.slice none 0 0, Value.int .i64 0]).flatten
  | 0 => rfl
  | n + 1 => by simp only [List.replicate_succ, lvCells, List.flatten_cons, lvCells_rep n]; rfl

end Go.Proofs.Ytaajcmoenemmlab
