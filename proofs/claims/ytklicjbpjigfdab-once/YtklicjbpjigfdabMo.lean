/- DERIVED. The walk of told: what a text says, read into memory. -/
import Derived.Test.YtklicjbpjigfdabReadW
import Derived.Test.YtklicjbpjigfdabMn
import Derived.Test.YtklicjbpjigfdabMakeW
import Derived.Test.YtklicjbpjigfdabNl
import Derived.Deep.DrawnRows
import Derived.Deep.RegionWith
import Derived.Deep.Cut
import Derived.Deep.CutRange
namespace Go.Proofs.Ytklicjbpjigfdab
open Go.RowKit
variable {F : Nat → Prop}
attribute [local go_sem ↓] Go.wp_at_zero Go.wp_at_succ

theorem LvAt.blockF {w w' : World} {g cap : Nat} {vs : List Value} {L : List Lvl} (h : LvAt F w g cap vs L) (hb : ∀ b, (b = g ∨ (F b ∧ ∃ c, w.heap[b]? = some (.cells c 3 (0, 0)))) → w'.heap[b]? = w.heap[b]?) : LvAt F w' g cap vs L := by
  refine ⟨ownsRow_block h.row (fun b hg => hb b (.inl ?_)), h.len, fun j hj => (h.its j hj).block (fun b hg => hb b (.inr ⟨h.fp j hj b hg, ?_⟩)), h.fp⟩
  · simp [Value.ownBlock] at hg; exact hg.symm
  · exact (h.its j hj).kind hg

theorem LvAt.wider {G : Nat → Prop} {w : World} {g cap : Nat} {vs : List Value} {L : List Lvl} (h : LvAt F w g cap vs L) (hFG : ∀ b, F b → G b) : LvAt G w g cap vs L := ⟨h.row, h.len, h.its, fun j hj b e => hFG b (h.fp j hj b e)⟩

abbrev skZero : Obj := .cells #[.int .i64 0, .slice none 0 0, .int .i64 0, .int .i64 0] 77 (0, 0)

/-- Where told stands: block R is its result, p the reader, b0 the sketch; gs the sizes, gl the levels. -/
structure TdSt (F : Nat → Prop) (R p b0 : Nat) (t : ByteArray) (w : World) (k : Nat) (gs n gl : Nat) (r : List Nat) (lo hi : Int) (szs : List Int) (L : List Lvl) (wr : World) : Prop where
  res : wr.heap[R]? = some skZero
  rd : RdAt wr p t r
  sk : wr.heap[b0]? = some (skBlk k gl n n lo hi)
  sz : wr.ownsRow 0 3 1 (.slice (some ⟨gs, 0, none⟩) n n) n (ints szs)
  lv : ∃ vs, LvAt (fun b => F b ∧ b ≠ gs) wr gl n vs L
  len : L.length = n
  hs : b0 < gs
  hl : b0 < gl
  bel : Below R w wr
  hp : R < p
  hb : p < b0

theorem TdSt.ne {R p b0 : Nat} {t : ByteArray} {w : World} {k gs n gl : Nat} {r : List Nat} {lo hi : Int} {szs : List Int} {L : List Lvl} {wr : World} (h : TdSt F R p b0 t w k gs n gl r lo hi szs L wr) : gs ≠ gl := by
  obtain ⟨vs, hL⟩ := h.lv
  have hp := h.hp
  have hb0 := h.hb
  rcases h.sz.2 with ⟨e, _⟩ | ⟨g', cap', cur', hv, _, hh, _⟩
  · cases e
  · cases hv; exact hL.ne hh (by decide)
/-- The reader goes on. -/
theorem TdSt.next {R p b0 : Nat} {t : ByteArray} {w : World} {k gs n gl : Nat} {r r' : List Nat} {lo hi : Int} {szs : List Int} {L : List Lvl} {wr w' : World} (h : TdSt F R p b0 t w k gs n gl r lo hi szs L wr) (hr : RdAt w' p t r') (hf : Fr (fun b => b = p) wr w') : TdSt F R p b0 t w k gs n gl r' lo hi szs L w' := by
  obtain ⟨vs, hL⟩ := h.lv
  have hp := h.hp
  have hb0 := h.hb
  refine ⟨(hf.block _ (lt_of_blk' h.res) (by omega)).trans h.res, hr, (hf.block _ (lt_of_blk' h.sk) (by omega)).trans h.sk, ownsRow_block h.sz (fun g e => by simp [Value.ownBlock] at e; subst e; exact hf.block _ (ownsRow_lt h.sz rfl) (by have := h.hs; omega)), ⟨vs, hL.blockF (fun b hb => ?_)⟩, h.len, h.hs, h.hl, h.bel.trans (hf.toBelow (Nat.le_of_lt (lt_of_blk' h.res)) (fun b e => by have := h.hp; omega)), h.hp, h.hb⟩
  rcases hb with rfl | ⟨_, c, hc⟩
  · exact hf.block _ hL.lt (by have := h.hl; omega)
  · refine hf.block _ (lt_of_blk' hc) (fun e => ?_)
    subst e
    obtain ⟨a, _, hb, _⟩ := h.rd
    rw [hb] at hc; cases hc
/-- A size is read. -/
theorem TdSt.size {R p b0 : Nat} {t : ByteArray} {w : World} {k gs n gl : Nat} {r : List Nat} {lo hi : Int} {szs : List Int} {L : List Lvl} {wr : World} (h : TdSt F R p b0 t w k gs n gl r lo hi szs L wr) (j : Nat) (x : Int) : TdSt F R p b0 t w k gs n gl r lo hi (szs.set j x) L (wr.setCell ⟨gs, j, none⟩ (.int .i64 x)) := by
  obtain ⟨vs, hL⟩ := h.lv
  have hp := h.hp
  have hb0 := h.hb
  have hne := h.ne
  have hst := (h.sz.stored j (.int .i64 x)).1
  have hgs := h.hs
  refine ⟨(Below.heap_setCell _ _ _ _ (by simp; omega)).trans h.res, h.rd.keep (Below.heap_setCell _ _ _ _ (by simp; omega)), (Below.heap_setCell _ _ _ _ (by simp; omega)).trans h.sk, ?_, ⟨vs, hL.blockF (fun b hb => Below.heap_setCell _ _ _ _ ?_)⟩, h.len, h.hs, h.hl, h.bel.setCell (by simp; omega) _, h.hp, h.hb⟩
  · rw [show (ints szs).set j (.int .i64 x) = ints (szs.set j x) by simp [ints, List.map_set]] at hst
    exact hst
  · rcases hb with rfl | ⟨⟨_, hb⟩, _⟩
    · exact Ne.symm hne
    · exact hb
/-- Times are read. -/
theorem TdSt.times {R p b0 : Nat} {t : ByteArray} {w : World} {k gs n gl : Nat} {r : List Nat} {lo hi : Int} {szs : List Int} {L : List Lvl} {wr : World} (h : TdSt F R p b0 t w k gs n gl r lo hi szs L wr) {j : Nat} (hj : j < n) (x : Nat) : TdSt F R p b0 t w k gs n gl r lo hi szs (setTimes L j x) (wr.setCell ⟨gl, j * 2 + 1, none⟩ (.int .i64 (x : Int))) := by
  obtain ⟨vs, hL⟩ := h.lv
  have hp := h.hp
  have hb0 := h.hb
  have hne := h.ne
  have hgl := h.hl
  exact ⟨(Below.heap_setCell _ _ _ _ (by simp; omega)).trans h.res, h.rd.keep (Below.heap_setCell _ _ _ _ (by simp; omega)), (Below.heap_setCell _ _ _ _ (by simp; omega)).trans h.sk, ownsRow_block h.sz (fun g e => by simp [Value.ownBlock] at e; subst e; exact Below.heap_setCell _ _ _ _ hne), ⟨vs, hL.setTimes (by rw [h.len]; exact hj)⟩, by rw [setTimes_length]; exact h.len, h.hs, h.hl, h.bel.setCell (by simp; omega) _, h.hp, h.hb⟩
/-- Items are read. -/
theorem TdSt.items {R p b0 : Nat} {t : ByteArray} {w : World} {k gs n gl : Nat} {r : List Nat} {lo hi : Int} {szs : List Int} {L : List Lvl} {wr : World} (h : TdSt F R p b0 t w k gs n gl r lo hi szs L wr) {j : Nat} (hj : j < n) {v : Value} {xs : List Int} (hv : Ints wr v xs) (hF : ∀ b, v.ownBlock = some b → F b ∧ b ≠ gs) : TdSt F R p b0 t w k gs n gl r lo hi szs (setItems L j xs) (wr.setCell ⟨gl, j * 2, none⟩ v) := by
  obtain ⟨vs, hL⟩ := h.lv
  have hp := h.hp
  have hb0 := h.hb
  have hne := h.ne
  have hgl := h.hl
  exact ⟨(Below.heap_setCell _ _ _ _ (by simp; omega)).trans h.res, h.rd.keep (Below.heap_setCell _ _ _ _ (by simp; omega)), (Below.heap_setCell _ _ _ _ (by simp; omega)).trans h.sk, ownsRow_block h.sz (fun g e => by simp [Value.ownBlock] at e; subst e; exact Below.heap_setCell _ _ _ _ hne), ⟨_, hL.setItems hv hF (by rw [h.len]; exact hj)⟩, by rw [setItems_length]; exact h.len, h.hs, h.hl, h.bel.setCell (by simp; omega) _, h.hp, h.hb⟩
theorem TdSt.setSk {R p b0 : Nat} {t : ByteArray} {w : World} {k gs n gl : Nat} {r : List Nat} {lo hi lo' hi' : Int} {szs : List Int} {L : List Lvl} {wr : World} (h : TdSt F R p b0 t w k gs n gl r lo hi szs L wr) (i : Nat) (v : Value) (hb : (wr.setCell ⟨b0, i, none⟩ v).heap[b0]? = some (skBlk k gl n n lo' hi')) : TdSt F R p b0 t w k gs n gl r lo' hi' szs L (wr.setCell ⟨b0, i, none⟩ v) := by
  obtain ⟨vs, hL⟩ := h.lv
  have hp := h.hp
  have hb0 := h.hb
  have hgl := h.hl
  have hgs := h.hs
  refine ⟨(Below.heap_setCell _ _ _ _ (by simp; omega)).trans h.res, h.rd.keep (Below.heap_setCell _ _ _ _ (by simp; omega)), hb, ownsRow_block h.sz (fun g e => by simp [Value.ownBlock] at e; subst e; exact Below.heap_setCell _ _ _ _ (by simp; omega)), ⟨vs, hL.blockF (fun b hb' => Below.heap_setCell _ _ _ _ ?_)⟩, h.len, h.hs, h.hl, h.bel.setCell (by simp; omega) _, h.hp, h.hb⟩
  rcases hb' with rfl | ⟨_, c, hc⟩
  · simp; omega
  · intro e
    simp at e
    subst e
    rw [h.sk] at hc; cases hc
theorem TdSt.lo {R p b0 : Nat} {t : ByteArray} {w : World} {k gs n gl : Nat} {r : List Nat} {lo hi : Int} {szs : List Int} {L : List Lvl} {wr : World} (h : TdSt F R p b0 t w k gs n gl r lo hi szs L wr) (x : Int) : TdSt F R p b0 t w k gs n gl r x hi szs L (wr.setCell ⟨b0, 2, none⟩ (.int .i64 x)) :=
  h.setSk 2 _ ((blk_set (i := 2) _ h.sk).trans (by simp))
theorem TdSt.hi {R p b0 : Nat} {t : ByteArray} {w : World} {k gs n gl : Nat} {r : List Nat} {lo hi : Int} {szs : List Int} {L : List Lvl} {wr : World} (h : TdSt F R p b0 t w k gs n gl r lo hi szs L wr) (x : Int) : TdSt F R p b0 t w k gs n gl r lo x szs L (wr.setCell ⟨b0, 3, none⟩ (.int .i64 x)) :=
  h.setSk 3 _ ((blk_set (i := 3) _ h.sk).trans (by simp))
/-- What lies there, cell by cell. -/
theorem TdSt.cells {R p b0 : Nat} {t : ByteArray} {w : World} {k gs n gl : Nat} {r : List Nat} {lo hi : Int} {szs : List Int} {L : List Lvl} {wr : World} (h : TdSt F R p b0 t w k gs n gl r lo hi szs L wr) :
    wr.cell? ⟨b0, 0, none⟩ = some (.int .i64 (k : Int)) ∧ wr.cell? ⟨b0, 1, none⟩ = some (.slice (some ⟨gl, 0, none⟩) n n) ∧ wr.cell? ⟨b0, 2, none⟩ = some (.int .i64 lo) ∧ wr.cell? ⟨b0, 3, none⟩ = some (.int .i64 hi) ∧ (∀ o, wr.frozen? ⟨b0, o, none⟩ = false) := blk4 h.sk
theorem TdSt.szCell {R p b0 : Nat} {t : ByteArray} {w : World} {k gs n gl : Nat} {r : List Nat} {lo hi : Int} {szs : List Int} {L : List Lvl} {wr : World} (h : TdSt F R p b0 t w k gs n gl r lo hi szs L wr) {j : Nat} (hj : j < n) : wr.cell? ⟨gs, j, none⟩ = some (.int .i64 (szs.getD j 0)) ∧ (∀ o, wr.frozen? ⟨gs, o, none⟩ = false) := by
  have hl : szs.length = n := by have := h.sz.1; rw [ints_length] at this; omega
  refine ⟨ownsRow_cell h.sz (by simp [ints, List.getD, hl, hj]), fun o => ?_⟩
  rcases h.sz.2 with ⟨e, _⟩ | ⟨g', c', cur, e, _, hh, _⟩
  · cases e
  · cases e; simp [World.frozen?, hh]
theorem TdSt.lvCell {R p b0 : Nat} {t : ByteArray} {w : World} {k gs n gl : Nat} {r : List Nat} {lo hi : Int} {szs : List Int} {L : List Lvl} {wr : World} (h : TdSt F R p b0 t w k gs n gl r lo hi szs L wr) {j : Nat} (hj : j < n) : (∃ u, wr.cell? ⟨gl, j * 2, none⟩ = some u ∧ u.oneCell' = true) ∧ (∃ u : Int, wr.cell? ⟨gl, j * 2 + 1, none⟩ = some (.int .i64 u)) ∧ (∀ o, wr.frozen? ⟨gl, o, none⟩ = false) := by
  obtain ⟨vs, hL⟩ := h.lv
  have hp := h.hp
  have hb0 := h.hb
  have hj' : j < L.length := by rw [h.len]; exact hj
  obtain ⟨ao, c, e⟩ := hL.itemsForm hj'
  exact ⟨⟨_, hL.cell0 hj', by rw [e]; rfl⟩, ⟨_, hL.cell1 hj'⟩, hL.free⟩

theorem made_szs (n : Nat) (hs : List (Nat × Nat)) : (madeCells (Value.int .i64 0).cells (n * 1)).toList = ints (szA hs 0 n) := by
  rw [made_zeros n []]; simp [rowAt, szA, toldNums]
theorem lvCells_rep : ∀ n : Nat, lvCells (List.replicate n (Value.slice none 0 0)) (List.replicate n Lvl.none) = (List.replicate n [Value.slice none 0 0, Value.int .i64 0]).flatten
  | 0 => rfl
  | n + 1 => by simp only [List.replicate_succ, lvCells, List.flatten_cons, lvCells_rep n]; rfl

end Go.Proofs.Ytklicjbpjigfdab

/- DERIVED. The walk of told. -/
namespace Go.Proofs.Ytklicjbpjigfdab
open Go.RowKit
variable {F : Nat → Prop}
attribute [local go_sem ↓] Go.wp_at_zero Go.wp_at_succ

theorem made_lvs (n : Nat) (hs : List (Nat × Nat)) : (madeCells (Value.agg #[.slice none 0 0, .int .i64 0]).cells (n * 2)).toList = lvCells (List.replicate n (Value.slice none 0 0)) (lvA hs 0 n) := by
  have e : (Value.agg #[.slice none 0 0, .int .i64 0]).cells = #[Value.slice none 0 0, .int .i64 0] := rfl
  have e2 : lvA hs 0 n = List.replicate n Lvl.none := by simp [lvA]
  rw [e, e2]
  apply List.ext_getElem?
  intro i
  have hl := lvCells_length (List.replicate n (Value.slice none 0 0)) (List.replicate n Lvl.none) (by simp)
  simp only [List.length_replicate] at hl
  rcases Nat.lt_or_ge i (n * 2) with h | h
  · rcases Nat.mod_two_eq_zero_or_one i with h2 | h2
    · have := lvCells_at0 (List.replicate n (Value.slice none 0 0)) (List.replicate n Lvl.none) (i / 2) (by simp) (by simp; omega)
      rw [show i / 2 * 2 = i by omega] at this
      rw [this]
      simp [madeCells, h, h2, List.getD, show i / 2 < n by omega]
    · have := lvCells_at1 (List.replicate n (Value.slice none 0 0)) (List.replicate n Lvl.none) (i / 2) (by simp) (by simp; omega)
      rw [show i / 2 * 2 + 1 = i by omega] at this
      rw [this]
      simp [madeCells, h, h2, List.getD, show i / 2 < n by omega, Lvl.none]
  · rw [List.getElem?_eq_none (by simp [madeCells]; omega), List.getElem?_eq_none (by omega)]

/-- The state ahead of the first loop. -/
theorem TdSt.begin {R p b0 : Nat} {t : ByteArray} {w w3 w4 w5 : World} {k n : Nat} {r : List Nat} (hs : List (Nat × Nat)) (hn : hs.length = n)
    (hres : w3.heap[R]? = some skZero) (hrd : RdAt w3 p t r) (hsk : w3.heap[b0]? = some (.cells #[.int .i64 (k : Int), .slice none 0 0, .int .i64 0, .int .i64 0] 77 (0, 0)))
    (hp : R < p) (hb0 : p < b0) (hb : Below R w w3) (ho4 : w4.ownsRow 0 3 1 (.slice (some ⟨w3.heap.size, 0, none⟩) n n) n (madeCells (Value.int .i64 0).cells (n * 1)).toList) (hg4 : w3.grownBy w4 none)
    (ho5 : w5.ownsRow 0 125 2 (.slice (some ⟨w4.heap.size, 0, none⟩) n n) n (madeCells (Value.agg #[.slice none 0 0, .int .i64 0]).cells (n * 2)).toList) (hg5 : w4.grownBy w5 none) :
    TdSt F R p b0 t w k w3.heap.size n w4.heap.size r 0 0 (szA hs 0 n) (lvA hs 0 n) (w5.setCell ⟨b0, 1, none⟩ (.slice (some ⟨w4.heap.size, 0, none⟩) n n)) := by
  have hz := lt_of_blk' hsk
  have hz4 := hg4.size
  have hk : ∀ b, b < w3.heap.size → w5.heap[b]? = w3.heap[b]? := fun b hb => (hg5.block b (by omega) (by simp)).trans (hg4.block b hb (by simp))
  have ho : ∀ b, b ≠ b0 → (w5.setCell ⟨b0, 1, none⟩ (.slice (some ⟨w4.heap.size, 0, none⟩) n n)).heap[b]? = w5.heap[b]? := fun b hb => Below.heap_setCell _ _ _ _ hb
  rw [made_szs n hs] at ho4
  rw [made_lvs n hs] at ho5
  have hl4 : w3.heap.size < w4.heap.size := ownsRow_lt ho4 rfl
  have hLn : (lvA hs 0 n).length = n := lvA_length hn (Nat.zero_le _)
  refine ⟨(ho _ (by omega)).trans ((hk _ (by omega)).trans hres), hrd.keep ((ho _ (by omega)).trans (hk _ (by omega))), (blk_set (i := 1) _ ((hk _ hz).trans hsk)).trans (by simp), ?_, ⟨List.replicate n (.slice none 0 0), ?_, ?_, ?_, ?_⟩, hLn, hz, by omega, ?_, hp, hb0⟩
  · refine ownsRow_block ho4 (fun g e => ?_)
    simp [Value.ownBlock] at e; subst e
    exact (ho _ (by omega)).trans (hg5.block _ hl4 (by simp))
  · rw [hLn]
    refine ownsRow_block ho5 (fun g e => ?_)
    simp [Value.ownBlock] at e; subst e
    exact ho _ (by omega)
  · simp [hLn]
  · intro h hh
    rw [hLn] at hh
    rw [show (List.replicate n (Value.slice none 0 0)).getD h undef = .slice none 0 0 by simp [List.getD, hh], lvA_items]
    exact Ints.nil _
  · intro h hh b hb
    rw [hLn] at hh
    rw [show (List.replicate n (Value.slice none 0 0)).getD h undef = .slice none 0 0 by simp [List.getD, hh]] at hb
    simp [Value.ownBlock] at hb
  · refine Below.setCell ?_ (by simp; omega) _
    have h1 : Below w3.heap.size w3 w4 := (Below.refl _ _).grown hg4 (Nat.le_refl _) (fun k h => by cases h)
    have h2 : Below w4.heap.size w4 w5 := (Below.refl _ _).grown hg5 (Nat.le_refl _) (fun k h => by cases h)
    exact (hb.trans (h1.mono (by omega))).trans (h2.mono (by omega))

theorem hsum_le : ∀ (hs : List (Nat × Nat)), (∀ p ∈ hs, p.1 < 256 ∧ p.2 < 4294967296) → hsum hs ≤ 255 * hs.length
  | [], _ => by simp [hsum]
  | (n, t) :: hs, h => by
    have h1 := hsum_le hs (fun p hp => h p (by simp [hp]))
    have h2 := (h (n, t) (by simp)).1
    simp only [hsum, List.length_cons]; simp only at h2; omega
theorem hsum_take_le : ∀ (hs : List (Nat × Nat)) (j : Nat), hsum (hs.take j) ≤ hsum hs
  | [], j => by simp [hsum]
  | (n, t) :: hs, 0 => by simp [hsum]
  | (n, t) :: hs, j + 1 => by have := hsum_take_le hs j; simp only [List.take_succ_cons, hsum]; omega
theorem szA_at {hs : List (Nat × Nat)} {j i n : Nat} (h : hs.length = n) (hj : i < j) (hjn : j ≤ n) : (szA hs j n).getD i 0 = (((hs.getD i (0, 0)).1 : Nat) : Int) := by
  unfold szA
  rw [List.getD_eq_getElem?_getD, List.getElem?_append_left (by simp; omega)]
  simp [hj, List.getD, show i < hs.length by omega]
theorem getD_bd {hs : List (Nat × Nat)} (h : ∀ p ∈ hs, p.1 < 256 ∧ p.2 < 4294967296) (j : Nat) : (hs.getD j (0, 0)).1 < 256 ∧ (hs.getD j (0, 0)).2 < 4294967296 := by
  rw [List.getD_eq_getElem?_getD]
  cases e : hs[j]? with
  | none => simp
  | some p => exact h p (List.mem_of_getElem? e)
/-- What is read of the ends, and what is left. -/
def tdR (hs : List (Nat × Nat)) (r : List Nat) : List Nat := if hsum hs = 0 then r else (r.drop 8).drop 8
def tdLo (hs : List (Nat × Nat)) (r : List Nat) : Int := if hsum hs = 0 then 0 else s64 (leV (r.take 8))
def tdHi (hs : List (Nat × Nat)) (r : List Nat) : Int := if hsum hs = 0 then 0 else s64 (leV ((r.drop 8).take 8))
theorem toldR_eq (k : Nat) (hs : List (Nat × Nat)) (r : List Nat) : toldR k hs r = ⟨k, toldLv hs (tdR hs r), tdLo hs r, tdHi hs r⟩ := by
  unfold toldR tdR tdLo tdHi
  split <;> rfl
theorem Fr.undrew {S : Nat → Prop} {w w' : World} (h : Fr S w.drew w') : Fr S w w' := ⟨h.os, h.tape, h.output, h.size, h.block⟩
theorem RdAt.drew {w : World} {p : Nat} {t : ByteArray} {r : List Nat} (h : RdAt w p t r) : RdAt w.drew p t r := h

theorem next_is {p m : Nat} {t : ByteArray} {r : List Nat} {w : World} {x : Int} (h : RdAt w p t r) (ht : t.size ≤ 140737488355328) (hm : m ≤ 8) (hx : s64 (leV (r.take m)) = x) :
    Calls Try.prog 88 #[.pointer (some ⟨p, 0, none⟩), .int .i64 (m : Int)] w fun e w' => e = .returned (.int .i64 x) ∧ RdAt w' p t (r.drop m) ∧ Fr (fun b => b = p) w w' := by
  subst hx; exact next_any p m t r w h ht hm

set_option maxHeartbeats 2000000 in
set_option maxRecDepth 100000 in
theorem told_any (t : ByteArray) (w : World) (ht : t.size ≤ 140737488355328) (hF : ∀ b, w.heap.size ≤ b → F b) :
    Calls Try.prog 68 #[.string t] w fun e w' => ∃ g vs, e = .returned (skVal (toldS (bytesOf t)).k g (toldS (bytesOf t)).lv.length (toldS (bytesOf t)).lv.length (toldS (bytesOf t)).lo (toldS (bytesOf t)).hi) ∧ w.heap.size ≤ g ∧ LvAt F w' g (toldS (bytesOf t)).lv.length vs (toldS (bytesOf t)).lv ∧ Below w.heap.size w w' := by
  obtain ⟨i0, hi0, hz0, hz1, hz2⟩ := info_parts Try.infoInt
  obtain ⟨i1, hi1, hy0, hy1, hy2⟩ := info_parts Try.infoLevel
  have HF := hid hF
  have HNX := hid (fun (m p : Nat) (r' : List Nat) (w' : World) (h' : RdAt w' p t r') (hm : m ≤ 8) => next_any p m t r' w' h' ht hm)
  have HNU := hid (fun (m p : Nat) (r' : List Nat) (w' : World) (h' : RdAt w' p t r') (hm : m < 256) => numbers_any p m t r' w' h' ht hm)
  have hlt := bytesOf_lt t
  have HTS : Hid (toldS (bytesOf t) = toldR (leV (((bytesOf t).drop 2).take 1)) (toldHd (leV ((((bytesOf t).drop 2).drop 1).take 1)) ((((bytesOf t).drop 2).drop 1).drop 1)) (((((bytesOf t).drop 2).drop 1).drop 1).drop (5 * leV ((((bytesOf t).drop 2).drop 1).take 1)))) := rfl
  have hk := leV_take (of_drop hlt 2) 1
  have hn := leV_take (of_drop (of_drop hlt 2) 1) 1
  have HHB := hid (toldHd_bd (leV ((((bytesOf t).drop 2).drop 1).take 1)) _ (of_drop (of_drop (of_drop hlt 2) 1) 1))
  have HHL := hid (toldHd_length (leV ((((bytesOf t).drop 2).drop 1).take 1)) ((((bytesOf t).drop 2).drop 1).drop 1))
  have HHA := hid (toldHd_at (leV ((((bytesOf t).drop 2).drop 1).take 1)) ((((bytesOf t).drop 2).drop 1).drop 1))
  generalize hT : toldS (bytesOf t) = T at *
  generalize hr0 : (bytesOf t).drop 2 = r0 at *
  have HR0 := hid hr0
  clear hT hlt hr0 hF
  have HK := hid (s64_small (n := leV (r0.take 1)) (by omega))
  have HN := hid (s64_small (n := leV ((r0.drop 1).take 1)) (by omega))
  generalize hK : leV (r0.take 1) = k at *
  generalize hNn : leV ((r0.drop 1).take 1) = n at *
  have HKE := hid hK
  have HNE := hid hNn
  generalize hhs : toldHd n ((r0.drop 1).drop 1) = hs at *
  generalize hr2 : (r0.drop 1).drop 1 = r2 at *
  have HR2 := hid hr2
  clear hK hNn hhs hr2
  generalize hR : w.heap.size = R at *
  have HRS := hid hR
  go_enter Try.func68, Try.ntmps68
  go_upto_region 3 with fail
  have hres0 : (((w.alloc skZero).alloc (.cells #[.string t, .int .i64 2] 148)).alloc skZero).heap[R]? = some skZero := by
    rw [← HRS.out, Below.heap_alloc _ _ _ (by simp; omega), Below.heap_alloc _ _ _ (by simp)]; exact heap_alloc_new _ _
  have hrd0 : RdAt (((w.alloc skZero).alloc (.cells #[.string t, .int .i64 2] 148)).alloc skZero) (R + 1) t r0 := by
    refine ⟨2, by omega, ?_, HR0.out⟩
    rw [← HRS.out, Below.heap_alloc _ _ _ (by simp), show w.heap.size + 1 = (w.alloc skZero).heap.size by simp]; exact heap_alloc_new _ _
  have hsk0 : (((w.alloc skZero).alloc (.cells #[.string t, .int .i64 2] 148)).alloc skZero).heap[R + 1 + 1]? = some skZero := by
    rw [← HRS.out, show w.heap.size + 1 + 1 = ((w.alloc skZero).alloc (.cells #[.string t, .int .i64 2] 148)).heap.size by simp]; exact heap_alloc_new _ _
  have hbl0 : Below R w (((w.alloc skZero).alloc (.cells #[.string t, .int .i64 2] 148)).alloc skZero) := by
    rw [← HRS.out]; exact (((Below.refl _ _).alloc (Nat.le_refl _) _).alloc (by simp) _).alloc (by simp; omega) _
  have hp : R < R + 1 := by omega
  have hb0 : R + 1 < R + 1 + 1 := by omega
  generalize ((w.alloc skZero).alloc (.cells #[.string t, .int .i64 2] 148)).alloc skZero = W0 at *
  generalize hpe : R + 1 = p at *
  generalize hbe : p + 1 = b0 at *
  clear hpe hbe
  obtain ⟨f0, f1, f2, f3, fz⟩ := blk4 hsk0
  go_wp2_with fail
  refine (next_is hrd0 ht (m := 1) (by decide) (x := (k : Int)) (by rw [HKE.out, HK.out])).mono ?_
  rintro e w1 ⟨rfl, hrd1, hf1⟩
  have hres1 := (hf1.block _ (lt_of_blk' hres0) (by omega)).trans hres0
  have hsk1 := (hf1.block _ (lt_of_blk' hsk0) (by omega)).trans hsk0
  have hbl1 := hbl0.trans (hf1.toBelow (Nat.le_of_lt (lt_of_blk' hres0)) (fun b e => by omega))
  clear f0 f1 f2 f3 fz hres0 hrd0 hsk0 hbl0 hf1
  obtain ⟨f0, f1, f2, f3, fz⟩ := blk4 hsk1
  go_upto_region 4 with fail
  have hrd2 := hrd1.keep (w' := w1.setCell ⟨b0, 0, none⟩ (.int .i64 (k : Int))) (Below.heap_setCell _ _ _ _ (by simp; omega))
  have hres2 : (w1.setCell ⟨b0, 0, none⟩ (.int .i64 (k : Int))).heap[R]? = some skZero := (Below.heap_setCell _ _ _ _ (by simp; omega)).trans hres1
  have hsk2 := blk_set (i := 0) (.int .i64 (k : Int)) hsk1
  have hbl2 := hbl1.setCell (p := ⟨b0, 0, none⟩) (by simp; omega) (.int .i64 (k : Int))
  simp only [List.setIfInBounds_toArray, List.set_cons_zero] at hsk2
  clear f0 f1 f2 f3 fz hres1 hrd1 hsk1 hbl1
  generalize w1.setCell ⟨b0, 0, none⟩ (.int .i64 (k : Int)) = W2 at *
  go_wp2_with fail
  refine (next_is hrd2 ht (m := 1) (by decide) (x := (n : Int)) (by rw [HNE.out, HN.out])).mono ?_
  rintro e w3 ⟨rfl, hrd3, hf3⟩
  have hres3 := (hf3.block _ (lt_of_blk' hres2) (by omega)).trans hres2
  have hsk3 := (hf3.block _ (lt_of_blk' hsk2) (by omega)).trans hsk2
  have hbl3 := hbl2.trans (hf3.toBelow (Nat.le_of_lt (lt_of_blk' hres2)) (fun b e => by omega))
  rw [HR2.out] at hrd3
  have HRES := hid hres3
  have HRD := hid hrd3
  have HSK := hid hsk3
  have HBL := hid hbl3
  obtain ⟨f0, f1, f2, f3, fz⟩ := blk4 hsk3
  have hbz := lt_of_blk' hsk3
  clear hres2 hrd2 hsk2 hbl2 hf3 hres3 hrd3 hsk3 hbl3
  go_upto_region 7 with (first | (at_make; refine wpList_make_full _ rfl _ _ 91 rfl 0 3 i0 (.int .i64 0) 1 Try.underlying91 hi0 hz0 hz1 _ _ _ _ n rfl rfl (by rfl) (by rfl) (by rw [hz2]; omega) (by unfold maxLen; omega) (Nat.zero_le _) ?_; intro w4 hown4 hgrow4; have HO4 := hid hown4; have HG4 := hid hgrow4; clear hown4 hgrow4) | (at_make; refine wpList_make_full _ rfl _ _ 75 rfl 0 125 i1 (.agg #[.slice none 0 0, .int .i64 0]) 2 Try.underlying75 hi1 hy0 hy1 _ _ _ _ n rfl rfl (by rfl) (by rfl) (by rw [hy2]; omega) (by unfold maxLen; omega) (Nat.zero_le _) ?_; intro w5 hown5 hgrow5; have HO5 := hid hown5; have HG5 := hid hgrow5; clear hown5 hgrow5; have q1 := (World.cell?_of_block ((HG5.out.block b0 (by have := HG4.out.size; omega) (by simp)).trans (HG4.out.block b0 hbz (by simp)))).trans f1; have qz := fun o => ((World.frozen?_of_block ((HG5.out.block b0 (by have := HG4.out.size; omega) (by simp)).trans (HG4.out.block b0 hbz (by simp)))).trans (fz o) : w5.frozen? ⟨b0, o, none⟩ = false)))
  have HS0 : Hid (TdSt F R p b0 t w k w3.heap.size n w4.heap.size (r2.drop (5 * 0)) 0 0 (szA hs 0 n) (lvA hs 0 n) (w5.setCell ⟨b0, 1, none⟩ (.slice (some ⟨w4.heap.size, 0, none⟩) n n))) := TdSt.begin hs HHL.out HRES.out HRD.out HSK.out hp hb0 HBL.out HO4.out HG4.out HO5.out HG5.out
  have hgs0 : b0 < w3.heap.size := hbz
  generalize w5.setCell ⟨b0, 1, none⟩ (.slice (some ⟨w4.heap.size, 0, none⟩) n n) = W5 at *
  clear q1 qz f0 f1 f2 f3 fz HO5 HG5 HO4 HG4 HRES HRD HSK HBL hbz
  generalize w3.heap.size = gs at *
  generalize w4.heap.size = gl at *
  have hsb := hsum_le hs HHB.out
  rw [HHL.out] at hsb
  go_upto_region 8 with fail
  go_wp2_with fail
  go_loopw [7, 24] (fun sc si wr => ∃ j : Nat, j ≤ n ∧ sc = .int .i64 ((hsum (hs.take j) : Nat) : Int) ∧ si = .int .i64 j ∧ Hid (TdSt F R p b0 t w k gs n gl (r2.drop (5 * j)) 0 0 (szA hs j n) (lvA hs j n) wr)) (fun _ si _ => n - (intOf si).toNat)
  case atStart => exact ⟨0, Nat.zero_le _, by simp [hsum], rfl, HS0⟩
  case round =>
    obtain ⟨j, hj, rfl, rfl, HS⟩ := hrel
    clear HS0
    by_cases hlt : j < n
    · have HA := hid (HHA.out j hlt)
      have hbd := getD_bd HHB.out j
      have HSM := hid (hsum_step (hs := hs) (j := j) (by rw [HHL.out]; exact hlt))
      have hsj := hsum_take_le hs (j + 1)
      have HZS := hid (szA_set (hs := hs) HHL.out hlt)
      have HZA := hid (szA_at (hs := hs) (i := j) (j := j + 1) HHL.out (by omega) (by omega))
      have HLT := hid (lvA_times (hs := hs) HHL.out hlt)
      have HDD : Hid (((r2.drop (5 * j)).drop 1).drop 4 = r2.drop (5 * (j + 1))) := by unfold Hid; rw [List.drop_drop, List.drop_drop, show 5 * j + (1 + 4) = 5 * (j + 1) by omega]
      rw [HSM.out] at hsj
      generalize hs.getD j (0, 0) = pr at *
      obtain ⟨a, tm⟩ := pr
      simp only at hbd hsj
      have HA1 : Hid (s64 (leV ((r2.drop (5 * j)).take 1)) = (a : Int)) := by unfold Hid; rw [← (Prod.mk.inj HA.out).1]; exact s64_small (by omega)
      have HA2 : Hid (s64 (leV (((r2.drop (5 * j)).drop 1).take 4)) = (tm : Int)) := by unfold Hid; rw [← (Prod.mk.inj HA.out).2]; exact s64_small (by omega)
      generalize hc : hsum (hs.take j) = c at *
      have HC := hid hc
      clear hc HA
      go_wp2_with fail
      refine (next_is HS.out.rd ht (m := 1) (by decide) HA1.out).mono ?_
      rintro e w6 ⟨rfl, hr6, hf6⟩
      have HS6 := hid (HS.out.next hr6 hf6)
      obtain ⟨z0, zz⟩ := HS6.out.szCell hlt
      clear hr6 hf6
      go_upto_region 12 with fail
      have HS7 := hid (HS6.out.size j (a : Int))
      generalize w6.setCell ⟨gs, j, none⟩ (.int .i64 (a : Int)) = W7 at *
      clear z0 zz HS6 HS
      rw [HZS.out] at HS7
      obtain ⟨⟨u0, v0, o0⟩, ⟨u1, v1⟩, vz⟩ := HS7.out.lvCell hlt
      obtain ⟨f0, f1, f2, f3, fz⟩ := HS7.out.cells
      have hs1 : (0 : Int) ≤ (j : Int) := by omega
      have hs2 : (j : Int) < (n : Int) := by omega
      go_cut [] from 25 to 43 (fun wd => TdSt F R p b0 t w k gs n gl (r2.drop (5 * (j + 1))) 0 0 (szA hs (j + 1) n) (lvA hs (j + 1) n) wd)
      case first =>
        go_region_with (first | (go_at_call 88; refine (next_is (HS7.out.rd.drew) ht (m := 4) (by decide) HA2.out).mono ?_; rintro e w8 ⟨rfl, hr8, hf8⟩; have HS8 := hid (HS7.out.next hr8 hf8.undrew); obtain ⟨⟨x0, y0, yo⟩, ⟨x1, y1⟩, yz⟩ := HS8.out.lvCell hlt; obtain ⟨g0, g1, g2, g3, gz⟩ := HS8.out.cells; clear hr8 hf8))
        all_goals
          go_wp2_with fail
          go_meet
          have hf := HS8.out.times hlt tm
          rw [HLT.out, HDD.out] at hf
          exact hf
      case rest =>
        have HS9 := hid hcut
        obtain ⟨z0, zz⟩ := HS9.out.szCell hlt
        rw [HZA.out] at z0
        try simp only at z0
        clear hcut f0 f1 f2 f3 fz v0 v1 vz HS7
        go_wp2_with fail
        go_roundw
        case rel => exact ⟨j + 1, by omega, by rw [HSM.out]; go_num, by go_num, HS9⟩
        case measure => simp [intOf]; omega
    · obtain rfl : n = j := by omega
      have HHS := hid (List.take_of_length_le (show hs.length ≤ n by rw [HHL.out]; exact Nat.le_refl _))
      rw [HHS.out]
      have hsb' : ((hsum hs : Nat) : Int) ≤ 65025 := by omega
      have HLA := hid (lvA_all (tdR hs (r2.drop (5 * n))) HHL.out)
      have HZ := hid (fun (i : Nat) (hi : i < n) => szA_at (hs := hs) (i := i) (j := n) HHL.out hi (Nat.le_refl _))
      have HTR : Hid (T = ⟨k, toldLv hs (tdR hs (r2.drop (5 * n))), tdLo hs (r2.drop (5 * n)), tdHi hs (r2.drop (5 * n))⟩) := by unfold Hid; rw [HTS.out]; exact toldR_eq _ _ _
      have HXR : Hid (tdR hs (r2.drop (5 * n)) = if hsum hs = 0 then r2.drop (5 * n) else ((r2.drop (5 * n)).drop 8).drop 8) := rfl
      have HXL : Hid (tdLo hs (r2.drop (5 * n)) = if hsum hs = 0 then 0 else s64 (leV ((r2.drop (5 * n)).take 8))) := rfl
      have HXH : Hid (tdHi hs (r2.drop (5 * n)) = if hsum hs = 0 then 0 else s64 (leV (((r2.drop (5 * n)).drop 8).take 8))) := rfl
      generalize tdR hs (r2.drop (5 * n)) = X at *
      generalize tdLo hs (r2.drop (5 * n)) = LO at *
      generalize tdHi hs (r2.drop (5 * n)) = HI at *
      generalize r2.drop (5 * n) = rr at *
      generalize szA hs n n = SZ at *
      generalize lvA hs n n = LA at *
      generalize hcs : hsum hs = c at *
      obtain ⟨f0, f1, f2, f3, fz⟩ := HS.out.cells
      go_upto_if 45 with fail
      go_cut [] from 24 (fun we => TdSt F R p b0 t w k gs n gl X LO HI SZ LA we)
      case first =>
        by_cases hc0 : 0 < c
        · have hc0' : decide ((0 : Int) < (c : Int)) = true := by simp; omega
          have HXL2 : Hid (s64 (leV (rr.take 8)) = LO) := by unfold Hid; rw [HXL.out, if_neg (by omega)]
          have HXH2 : Hid (s64 (leV ((rr.drop 8).take 8)) = HI) := by unfold Hid; rw [HXH.out, if_neg (by omega)]
          have HXR2 : Hid ((rr.drop 8).drop 8 = X) := by unfold Hid; rw [HXR.out, if_neg (by omega)]
          clear HXL HXH HXR
          go_wp2_with fail
          refine (next_is HS.out.rd ht (m := 8) (by decide) HXL2.out).mono ?_
          rintro e w6 ⟨rfl, hr6, hf6⟩
          have HS6 := hid (HS.out.next hr6 hf6)
          clear f0 f1 f2 f3 fz hr6 hf6
          obtain ⟨f0, f1, f2, f3, fz⟩ := HS6.out.cells
          go_upto_region 17 with fail
          have HS7 := hid (HS6.out.lo LO)
          generalize w6.setCell ⟨b0, 2, none⟩ (.int .i64 LO) = W7 at *
          clear f0 f1 f2 f3 fz HS6
          obtain ⟨f0, f1, f2, f3, fz⟩ := HS7.out.cells
          go_wp2_with fail
          refine (next_is HS7.out.rd ht (m := 8) (by decide) HXH2.out).mono ?_
          rintro e w8 ⟨rfl, hr8, hf8⟩
          have HS8 := hid (HS7.out.next hr8 hf8)
          clear f0 f1 f2 f3 fz hr8 hf8
          obtain ⟨f0, f1, f2, f3, fz⟩ := HS8.out.cells
          go_wp2_with fail
          go_meet
          have hf := HS8.out.hi HI
          rw [HXR2.out] at hf
          exact hf
        · have hc0' : decide ((0 : Int) < (c : Int)) = false := by simp; omega
          go_wp2_with fail
          go_meet
          have hf := HS.out
          rw [HXL.out, HXH.out, HXR.out, if_pos (by omega), if_pos (by omega), if_pos (by omega)]
          exact hf
      case rest =>
        have HS9 := hid hcut
        clear hcut f0 f1 f2 f3 fz HS HXL HXH HXR
        rw [HLA.out] at HS9
        go_wp2_with fail
        go_loopw [52] (fun si wr => ∃ j : Nat, j ≤ n ∧ si = .int .i64 j ∧ Hid (TdSt F R p b0 t w k gs n gl (X.drop (8 * hsum (hs.take j))) LO HI SZ (lvC hs X j) wr)) (fun si _ => n - (intOf si).toNat)
        case atStart => exact ⟨0, Nat.zero_le _, rfl, by simpa [hsum] using HS9⟩
        case round =>
          obtain ⟨j, hj, rfl, HS⟩ := hrel
          clear HS9
          by_cases hlt : j < n
          · have hbd := getD_bd HHB.out j
            have HSM := hid (hsum_step (hs := hs) (j := j) (by rw [HHL.out]; exact hlt))
            have HLC := hid (lvC_items (hs := hs) (r := X) HHL.out hlt)
            obtain ⟨z0, zz⟩ := HS.out.szCell hlt
            rw [HZ.out j hlt] at z0
            generalize hs.getD j (0, 0) = pr at *
            obtain ⟨a, tm⟩ := pr
            simp only at hbd z0
            have HDD : Hid ((X.drop (8 * hsum (hs.take j))).drop (8 * a) = X.drop (8 * hsum (hs.take (j + 1)))) := by unfold Hid; rw [HSM.out, List.drop_drop]; congr 1; simp only; omega
            obtain ⟨⟨u0, v0, o0⟩, ⟨u1, v1⟩, vz⟩ := HS.out.lvCell hlt
            obtain ⟨f0, f1, f2, f3, fz⟩ := HS.out.cells
            have hs1 : (0 : Int) ≤ (j : Int) := by omega
            have hs2 : (j : Int) < (n : Int) := by omega
            go_upto_region 21 with fail
            go_region_with (first | (go_at_call 89; refine (HNU.out a p _ _ HS.out.rd.drew (by omega)).mono ?_; rintro e w8 ⟨rfl, hown8, hr8, hf8⟩; have HS8 := hid (HS.out.next hr8 hf8.undrew); have HO8 := hid hown8; obtain ⟨⟨x0, y0, yo⟩, ⟨x1, y1⟩, yz⟩ := HS8.out.lvCell hlt; obtain ⟨g0, g1, g2, g3, gz⟩ := HS8.out.cells; clear hr8 hf8 hown8))
            all_goals
              go_wp2_with fail
              go_roundw
              case rel =>
                refine ⟨j + 1, by omega, by go_num, ?_⟩
                have hf := HS8.out.items hlt (Ints.of HO8.out) (fun b hb => by
                  simp [Value.ownBlock] at hb
                  subst hb
                  have h1 : gs < wr.heap.size := ownsRow_lt HS.out.sz rfl
                  have h2 := HS.out.bel.size
                  refine ⟨HF.out _ ?_, ?_⟩
                  · have := lt_of_blk' HS.out.res; omega
                  · omega)
                rw [HLC.out, HDD.out] at hf
                exact hf
              case measure => simp [intOf]; omega
          · obtain rfl : n = j := by omega
            have HLV := hid (lvC_all (r := X) HHL.out)
            obtain ⟨f0, f1, f2, f3, fz⟩ := HS.out.cells
            obtain ⟨d0, d1, d2, d3, dz⟩ := blk4 HS.out.res
            go_wp2_with fail
            have hS := HS.out
            rw [HLV.out] at hS
            obtain ⟨vs, hL⟩ := hS.lv
            have hlen := hS.len
            have hkl : T.lv.length = n := by rw [HTR.out]; exact hlen
            refine bodyPost_ret (v := skVal k gl n n LO HI) (by simp [results, Try.results68, go_sem, d0, d1, d2, d3]) rfl ⟨gl, vs, ?_, ?_, ?_, ?_⟩
            · rw [hkl, HTR.out]
            · have := hS.hl; have := hS.hp; have := hS.hb; omega
            · rw [hkl, HTR.out]
              refine (hL.block (fun c hc => set4_other _ _ _ _ (fun e => ?_))).wider (fun b hb => hb.1)
              subst e
              rcases hc with hc | ⟨c, hc⟩
              · have := hS.hl; have := hS.hp; have := hS.hb; omega
              · rw [hS.res] at hc; cases hc
            · exact below_set4 hS.bel (Nat.le_refl _) _ _ _ _

end Go.Proofs.Ytklicjbpjigfdab
