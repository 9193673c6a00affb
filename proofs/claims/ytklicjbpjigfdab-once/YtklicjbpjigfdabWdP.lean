/- DERIVED. The statement's own world in memory: a desk, three sides, coins; who owns which block. -/
import Derived.Test.YtklicjbpjigfdabAddW
import Derived.Test.YtklicjbpjigfdabNe
import Derived.Test.YtklicjbpjigfdabPutW
namespace Go.Proofs.Ytklicjbpjigfdab
open Go.RowKit

structure Wd where
  D : Dk
  sd : Nat → Sd
  coins : ByteArray
  at_ : Nat
  used : Nat
  most : Int
  short : Bool

abbrev wdBlk (d : Nat) (vs : Value) (W : Wd) : Obj := .cells #[.pointer (some ⟨d, 0, none⟩), vs, .string W.coins, .int .i64 (W.at_ : Int), .int .i64 (W.used : Int), .int .i64 W.most, .bool W.short] 31 (0, 0)
/-- The pointers to the first m sides. -/
def ptrs (ps : Nat → Nat) (m : Nat) : List Value := (List.range m).map fun i => .pointer (some ⟨ps i, 0, none⟩)

/-- The world W lies behind block p, with m sides so far; each block has one owner: 1: the desk, 2 and more: a side, 1000: the world's own. -/
structure WdAt (own : Nat → Nat) (w : World) (p d m : Nat) (W : Wd) (ps : Nat → Nat) (vs : Value) (vx vw : Nat → Value) : Prop where
  blk : w.heap[p]? = some (wdBlk d vs W)
  op : own p = 1000
  row : w.ownsRow 0 90 1 vs m (ptrs ps m)
  ors : ∀ b, vs.ownBlock = some b → own b = 1000
  desk : DeskAt (fun b => own b = 1) w d W.D
  side : ∀ i, i < m → SideAt (fun b => own b = 2 + i) w (ps i) (W.sd i) (vx i) (vw i)
  lt : ∀ b, own b ≠ 0 → b < w.heap.size
  few : m ≤ 4

/-- The blocks of K are as they were in w0. -/
structure Keeps (K : Nat → Prop) (w0 w : World) : Prop where
  os : w.os = w0.os
  tape : w.tape = w0.tape
  output : w.output = w0.output
  size : w0.heap.size ≤ w.heap.size
  block : ∀ b, K b → w.heap[b]? = w0.heap[b]?
theorem Keeps.refl (K : Nat → Prop) (w : World) : Keeps K w w := ⟨rfl, rfl, rfl, Nat.le_refl _, fun _ _ => rfl⟩
theorem Keeps.below {K : Nat → Prop} {w0 w w' : World} (h : Keeps K w0 w) (hb : Below w.heap.size w w') (hK : ∀ b, K b → b < w0.heap.size) : Keeps K w0 w' :=
  ⟨hb.os.trans h.os, hb.tape.trans h.tape, hb.output.trans h.output, Nat.le_trans h.size hb.size, fun b e => (hb.block b (Nat.lt_of_lt_of_le (hK b e) h.size)).trans (h.block b e)⟩
theorem Keeps.fr {K S : Nat → Prop} {w0 w w' : World} (h : Keeps K w0 w) (hf : Fr S w w') (hK : ∀ b, K b → b < w0.heap.size) (hS : ∀ b, K b → ¬ S b) : Keeps K w0 w' :=
  ⟨hf.os.trans h.os, hf.tape.trans h.tape, hf.output.trans h.output, Nat.le_trans h.size hf.size, fun b e => (hf.block b (Nat.lt_of_lt_of_le (hK b e) h.size) (hS b e)).trans (h.block b e)⟩

/-- There is such a world; the blocks of K are nobody's, and as they were in w0. -/
def WdSt (K : Nat → Prop) (w0 w : World) (p d m : Nat) (ps : Nat → Nat) (W : Wd) : Prop := ∃ own vs vx vw, WdAt own w p d m W ps vs vx vw ∧ (∀ b, K b → own b = 0 ∧ b < w0.heap.size) ∧ Keeps K w0 w
variable {K : Nat → Prop} {w0 : World}

theorem WdAt.keep {own : Nat → Nat} {w w' : World} {p d m : Nat} {W : Wd} {ps : Nat → Nat} {vs : Value} {vx vw : Nat → Value} (h : WdAt own w p d m W ps vs vx vw) (hs : w.heap.size ≤ w'.heap.size) (hb : ∀ b, own b ≠ 0 → w'.heap[b]? = w.heap[b]?) : WdAt own w' p d m W ps vs vx vw :=
  ⟨(hb p (by rw [h.op]; omega)).trans h.blk, h.op, ownsRow_block h.row (fun b e => hb b (by rw [h.ors b e]; omega)), h.ors, h.desk.keep hs (fun b e => hb b (by omega)), fun i hi => (h.side i hi).keep (fun b e _ => hb b (by omega)), fun b e => Nat.lt_of_lt_of_le (h.lt b e) hs, h.few⟩
theorem WdAt.below {own : Nat → Nat} {w w' : World} {p d m : Nat} {W : Wd} {ps : Nat → Nat} {vs : Value} {vx vw : Nat → Value} (h : WdAt own w p d m W ps vs vx vw) (hb : Below w.heap.size w w') : WdAt own w' p d m W ps vs vx vw := h.keep hb.size (fun b e => hb.block b (h.lt b e))
theorem WdSt.below {w w' : World} {p d m : Nat} {ps : Nat → Nat} {W : Wd} (h : WdSt K w0 w p d m ps W) (hb : Below w.heap.size w w') : WdSt K w0 w' p d m ps W := by
  obtain ⟨own, vs, vx, vw, h, h2, h3⟩ := h
  exact ⟨own, vs, vx, vw, h.below hb, h2, h3.below hb (fun b e => (h2 b e).2)⟩
theorem WdSt.drewN {w : World} {p d m n : Nat} {ps : Nat → Nat} {W : Wd} (h : WdSt K w0 w p d m ps W) : WdSt K w0 (w.drewN n) p d m ps W := h.below ⟨rfl, rfl, rfl, Nat.le_refl _, fun _ _ => rfl⟩
theorem WdSt.drew {w : World} {p d m : Nat} {ps : Nat → Nat} {W : Wd} (h : WdSt K w0 w p d m ps W) : WdSt K w0 w.drew p d m ps W := h.below ⟨rfl, rfl, rfl, Nat.le_refl _, fun _ _ => rfl⟩

/-- The desk has taken a step. -/
theorem WdAt.deskStep {own : Nat → Nat} {w w' : World} {p d m : Nat} {W : Wd} {ps : Nat → Nat} {vs : Value} {vx vw : Nat → Value} {D' : Dk} (h : WdAt own w p d m W ps vs vx vw) (h2K : ∀ b, K b → own b = 0 ∧ b < w0.heap.size) (hk : Keeps K w0 w) (hd : DeskStep (fun b => own b = 1) w w' d D') : WdSt K w0 w' p d m ps { W with D := D' } := by
  obtain ⟨F', h1, h2, h3⟩ := hd
  have hkeep : ∀ b, own b ≠ 0 → own b ≠ 1 → w'.heap[b]? = w.heap[b]? := fun b h0 h1 => h3.block b (h.lt b h0) h1
  have hF' : ∀ b, F' b → own b = 1 ∨ own b = 0 := by
    intro b hb
    rcases h2 b hb with e | e
    · exact .inl e
    · refine .inr (Decidable.byContradiction fun hn => ?_)
      have := h.lt b hn; omega
  obtain ⟨vt, vk, rs, hin⟩ := h1
  refine ⟨fun b => if own b = 0 then (if b < w'.heap.size ∧ w.heap.size ≤ b then 1 else 0) else own b, vs, vx, vw, ?_, fun b e => ⟨?_, (h2K b e).2⟩, hk.fr h3 (fun b e => (h2K b e).2) (fun b e e' => by have := (h2K b e).1; omega)⟩
  rotate_left
  · have := h2K b e
    have := hk.size
    simp only [(h2K b e).1, if_true]
    rw [if_neg (by omega)]
  have hold : ∀ b n, n ≠ 0 → own b = n → (if own b = 0 then (if b < w'.heap.size ∧ w.heap.size ≤ b then 1 else 0) else own b) = n := fun b n hn e => by rw [if_neg (by omega)]; exact e
  have hFn : ∀ b, F' b → (if own b = 0 then (if b < w'.heap.size ∧ w.heap.size ≤ b then 1 else 0) else own b) = 1 := by
    intro b hb
    by_cases e : own b = 0
    · have hle : w.heap.size ≤ b := by
        rcases h2 b hb with e' | e'
        · omega
        · exact e'
      rw [if_pos e, if_pos ⟨hin.flt b hb, hle⟩]
    · rw [if_neg e]
      rcases hF' b hb with e' | e'
      · exact e'
      · exact absurd e' e
  refine ⟨(hkeep p (by rw [h.op]; omega) (by rw [h.op]; omega)).trans h.blk, hold p 1000 (by omega) h.op, ownsRow_block h.row (fun b e => hkeep b (by rw [h.ors b e]; omega) (by rw [h.ors b e]; omega)), fun b e => hold b 1000 (by omega) (h.ors b e), ?_, fun i hi => ?_, fun b e => ?_, h.few⟩
  · refine ⟨vt, vk, rs, hin.blk, hFn d hin.fd, hin.tp, fun b e => hFn b (hin.ftp b e), hin.row, fun b e => hFn b (hin.frow b e), hin.len, fun i hi => (hin.lv i hi).mono (fun b e _ => hFn b e), fun i hi => hFn _ (hin.flv i hi), fun b e => ?_, hin.tk, fun i hi b e => hFn _ (hin.ftk i hi b e), hin.dtk⟩
    by_cases e0 : own b = 0
    · rw [if_pos e0] at e
      by_cases e1 : b < w'.heap.size ∧ w.heap.size ≤ b
      · exact e1.1
      · rw [if_neg e1] at e; omega
    · exact Nat.lt_of_lt_of_le (h.lt b e0) h3.size
  · have hs := (h.side i hi).keep (w' := w') (fun b e _ => hkeep b (by omega) (by omega))
    exact ⟨hs.blk, hold _ _ (by omega) hs.gp, hs.ix, hs.iw, fun b e => hold _ _ (by omega) (hs.gx b e), fun b e => hold _ _ (by omega) (hs.gw b e), hs.ne, hs.len⟩
  · by_cases e0 : own b = 0
    · rw [if_pos e0] at e
      by_cases e1 : b < w'.heap.size ∧ w.heap.size ≤ b
      · exact e1.1
      · rw [if_neg e1] at e; omega
    · exact Nat.lt_of_lt_of_le (h.lt b e0) h3.size

/-- A side has taken a step. -/
theorem WdAt.sideStep {own : Nat → Nat} {w w' : World} {p d m i : Nat} {W : Wd} {ps : Nat → Nat} {vs : Value} {vx vw : Nat → Value} {s' : Sd} {vx' vw' : Value} (h : WdAt own w p d m W ps vs vx vw) (hi : i < m)
    (hs : SideAt (fun b => (own b = 2 + i ∨ w.heap.size ≤ b) ∧ b < w'.heap.size) w' (ps i) s' vx' vw') (hf : Fr (fun b => own b = 2 + i) w w') (h2K : ∀ b, K b → own b = 0 ∧ b < w0.heap.size) (hk : Keeps K w0 w) : WdSt K w0 w' p d m ps { W with sd := fun j => if j = i then s' else W.sd j } := by
  have hm := h.few
  have hkeep : ∀ b, own b ≠ 0 → own b ≠ 2 + i → w'.heap[b]? = w.heap[b]? := fun b h0 h1 => hf.block b (h.lt b h0) h1
  have hold : ∀ b n, n ≠ 0 → own b = n → (if own b = 0 then (if b < w'.heap.size ∧ w.heap.size ≤ b then 2 + i else 0) else own b) = n := fun b n hn e => by rw [if_neg (by omega)]; exact e
  have hGn : ∀ b, (own b = 2 + i ∨ w.heap.size ≤ b) ∧ b < w'.heap.size → (if own b = 0 then (if b < w'.heap.size ∧ w.heap.size ≤ b then 2 + i else 0) else own b) = 2 + i := by
    intro b hb
    by_cases e : own b = 0
    · have hle : w.heap.size ≤ b := by
        rcases hb.1 with e' | e'
        · omega
        · exact e'
      rw [if_pos e, if_pos ⟨hb.2, hle⟩]
    · rw [if_neg e]
      rcases hb.1 with e' | e'
      · exact e'
      · have := h.lt b e; omega
  obtain ⟨vt, vk, rs, hin⟩ := h.desk
  have hin' := hin.keep hf.size (fun b e => hkeep b (by omega) (by omega))
  refine ⟨fun b => if own b = 0 then (if b < w'.heap.size ∧ w.heap.size ≤ b then 2 + i else 0) else own b, vs, fun j => if j = i then vx' else vx j, fun j => if j = i then vw' else vw j, ?_, fun b e => ⟨?_, (h2K b e).2⟩, hk.fr hf (fun b e => (h2K b e).2) (fun b e e' => by have := (h2K b e).1; omega)⟩
  rotate_left
  · have := h2K b e
    have := hk.size
    simp only [(h2K b e).1, if_true]
    rw [if_neg (by omega)]
  refine ⟨(hkeep p (by rw [h.op]; omega) (by rw [h.op]; omega)).trans h.blk, hold p 1000 (by omega) h.op, ownsRow_block h.row (fun b e => hkeep b (by rw [h.ors b e]; omega) (by rw [h.ors b e]; omega)), fun b e => hold b 1000 (by omega) (h.ors b e), ?_, fun j hj => ?_, fun b e => ?_, h.few⟩
  · refine ⟨vt, vk, rs, hin'.blk, hold _ _ (by omega) hin'.fd, hin'.tp, fun b e => hold _ _ (by omega) (hin'.ftp b e), hin'.row, fun b e => hold _ _ (by omega) (hin'.frow b e), hin'.len, fun i hi => (hin'.lv i hi).mono (fun b e _ => hold _ _ (by omega) e), fun i hi => hold _ _ (by omega) (hin'.flv i hi), fun b e => ?_, hin'.tk, fun i hi b e => hold _ _ (by omega) (hin'.ftk i hi b e), hin'.dtk⟩
    by_cases e0 : own b = 0
    · rw [if_pos e0] at e
      by_cases e1 : b < w'.heap.size ∧ w.heap.size ≤ b
      · exact e1.1
      · rw [if_neg e1] at e; omega
    · exact Nat.lt_of_lt_of_le (h.lt b e0) hf.size
  · by_cases e : j = i
    · subst e
      simp only [if_true]
      exact ⟨hs.blk, hGn _ hs.gp, hs.ix, hs.iw, fun b e => hGn b (hs.gx b e), fun b e => hGn b (hs.gw b e), hs.ne, hs.len⟩
    · simp only [if_neg e]
      have hs := (h.side j hj).keep (w' := w') (fun b e' _ => hkeep b (by omega) (by omega))
      exact ⟨hs.blk, hold _ _ (by omega) hs.gp, hs.ix, hs.iw, fun b e => hold _ _ (by omega) (hs.gx b e), fun b e => hold _ _ (by omega) (hs.gw b e), hs.ne, hs.len⟩
  · by_cases e0 : own b = 0
    · rw [if_pos e0] at e
      by_cases e1 : b < w'.heap.size ∧ w.heap.size ≤ b
      · exact e1.1
      · rw [if_neg e1] at e; omega
    · exact Nat.lt_of_lt_of_le (h.lt b e0) hf.size

theorem blk7 {w : World} {r : Nat} {a b c d x y z : Value} {e : TypeId} (h : w.heap[r]? = some (.cells #[a, b, c, d, x, y, z] e (0, 0))) :
    w.cell? ⟨r, 0, none⟩ = some a ∧ w.cell? ⟨r, 1, none⟩ = some b ∧ w.cell? ⟨r, 2, none⟩ = some c ∧ w.cell? ⟨r, 3, none⟩ = some d ∧ w.cell? ⟨r, 4, none⟩ = some x ∧ w.cell? ⟨r, 5, none⟩ = some y ∧ w.cell? ⟨r, 6, none⟩ = some z ∧ (∀ o, w.frozen? ⟨r, o, none⟩ = false) := by
  refine ⟨?_, ?_, ?_, ?_, ?_, ?_, ?_, fun o => ?_⟩ <;> simp [World.cell?, World.frozen?, h]

/-- The world's own cells have turned. -/
theorem WdAt.own {own : Nat → Nat} {w w' : World} {p d m : Nat} {W W' : Wd} {ps : Nat → Nat} {vs : Value} {vx vw : Nat → Value} (h : WdAt own w p d m W ps vs vx vw) (hs : w'.heap.size = w.heap.size) (hb : ∀ b, b ≠ p → w'.heap[b]? = w.heap[b]?) (hp : w'.heap[p]? = some (wdBlk d vs W')) (hD : W'.D = W.D) (hsd : W'.sd = W.sd) (h2K : ∀ b, K b → own b = 0 ∧ b < w0.heap.size) (hk : Keeps K w0 w) (ho : w'.os = w.os) (ht : w'.tape = w.tape) (hou : w'.output = w.output) : WdSt K w0 w' p d m ps W' := by
  have hm := h.few
  refine ⟨own, vs, vx, vw, ⟨hp, h.op, ownsRow_block h.row (fun b e => hb b (fun e' => ?_)), h.ors, ?_, fun i hi => ?_, fun b e => by rw [hs]; exact h.lt b e, h.few⟩, h2K, ⟨ho.trans hk.os, ht.trans hk.tape, hou.trans hk.output, by rw [hs]; exact hk.size, fun b e => (hb b (fun e' => by subst e'; have := (h2K b e).1; rw [h.op] at this; omega)).trans (hk.block b e)⟩⟩
  · subst e'
    rcases h.row.2 with ⟨e', _⟩ | ⟨g', c', cur, e', _, hh, _⟩
    · rw [e'] at e; simp [Value.ownBlock] at e
    · rw [e'] at e; simp [Value.ownBlock] at e; subst e
      rw [h.blk] at hh; cases hh
  · rw [hD]
    exact h.desk.keep (Nat.le_of_eq hs.symm) (fun b e => hb b (fun e' => by subst e'; rw [h.op] at e; omega))
  · rw [hsd]
    exact (h.side i hi).keep (fun b e _ => hb b (fun e' => by subst e'; rw [h.op] at e; omega))

/-- The pointer to side i. -/
theorem WdAt.ptr {own : Nat → Nat} {w : World} {p d m i : Nat} {W : Wd} {ps : Nat → Nat} {vs : Value} {vx vw : Nat → Value} (h : WdAt own w p d m W ps vs vx vw) (hi : i < m) : ∃ g c, vs = .slice (some ⟨g, 0, none⟩) m c ∧ w.cell? ⟨g, i, none⟩ = some (.pointer (some ⟨ps i, 0, none⟩)) := by
  have h' := h.row
  rcases h.row.2 with ⟨_, hn⟩ | ⟨g, c, cur, e, _⟩
  · omega
  · refine ⟨g, c, e, ?_⟩
    rw [e] at h'
    exact ownsRow_cell h' (by simp [ptrs, hi])

end Go.Proofs.Ytklicjbpjigfdab
