/- DERIVED. The statement's own world in memory: a desk, three sides, coins; who owns which block. -/
import Derived.Test.YtklicjbpjigfdabQ8
import Derived.Test.YtklicjbpjigfdabQ7
import Derived.Test.YtklicjbpjigfdabQ12
import Derived.Deep.QuietTactic
import Derived.BigQuiet
import Derived.BigRegion
import Derived.Test.YtklicjbpjigfdabQ9
namespace Go.Proofs.Ytklicjbpjigfdab
open Go.RowKit

structure Wd where
  D : Dk
  sd : Nat → Sd
  coins : ByteArray
  at_ : Nat
  used : Nat
  most : Int
  short : Bool

abbrev wdBlk (d : Nat) (vs : Value) (W : Wd) : Obj := .cells #[.pointer (some ⟨d, 0, none⟩), vs, .string W.coins, .int .i64 (W.at_ : Int), .int .i64 (W.used : Int), .int .i64 W.most, .bool W.short] 31 (0, 0)
/-- The pointers to the first m sides. -/
def ptrs (ps : Nat → Nat) (m : Nat) : List Value := (List.range m).map fun i => .pointer (some ⟨ps i, 0, none⟩)

/-- The world W lies behind block p, with m sides so far; each block has one owner: 1: the desk, 2 and more: a side, 1000: the world's own. -/
structure WdAt (own : Nat → Nat) (w : World) (p d m : Nat) (W : Wd) (ps : Nat → Nat) (vs : Value) (vx vw : Nat → Value) : Prop where
  blk : w.heap[p]? = some (wdBlk d vs W)
  op : own p = 1000
  row : w.ownsRow 0 90 1 vs m (ptrs ps m)
  ors : ∀ b, vs.ownBlock = some b → own b = 1000
  desk : DeskAt (fun b => own b = 1) w d W.D
  side : ∀ i, i < m → SideAt (fun b => own b = 2 + i) w (ps i) (W.sd i) (vx i) (vw i)
  lt : ∀ b, own b ≠ 0 → b < w.heap.size
  few : m ≤ 4

/-- The blocks of K are as they were in w0. -/
structure Keeps (K : Nat → Prop) (w0 w : World) : Prop where
  os : w.os = w0.os
  tape : w.tape = w0.tape
  output : w.output = w0.output
  size : w0.heap.size ≤ w.heap.size
  block : ∀ b, K b → w.heap[b]? = w0.heap[b]?
theorem Keeps.refl (K : Nat → Prop) (w : World) : Keeps K w w := ⟨rfl, rfl, rfl, Nat.le_refl _, fun _ _ => rfl⟩
theorem Keeps.below {K : Nat → Prop} {w0 w w' : World} (h : Keeps K w0 w) (hb : Below w.heap.size w w') (hK : ∀ b, K b → b < w0.heap.size) : Keeps K w0 w' :=
  ⟨hb.os.trans h.os, hb.tape.trans h.tape, hb.output.trans h.output, Nat.le_trans h.size hb.size, fun b e => (hb.block b (Nat.lt_of_lt_of_le (hK b e) h.size)).trans (h.block b e)⟩
theorem Keeps.fr {K S : Nat → Prop} {w0 w w' : World} (h : Keeps K w0 w) (hf : Fr S w w') (hK : ∀ b, K b → b < w0.heap.size) (hS : ∀ b, K b → ¬ S b) : Keeps K w0 w' :=
  ⟨hf.os.trans h.os, hf.tape.trans h.tape, hf.output.trans h.output, Nat.le_trans h.size hf.size, fun b e => (hf.block b (Nat.lt_of_lt_of_le (hK b e) h.size) (hS b e)).trans (h.block b e)⟩

/-- There is such a world; the blocks of K are nobody's, and as they were in w0. -/
def WdSt (K : Nat → Prop) (w0 w : World) (p d m : Nat) (ps : Nat → Nat) (W : Wd) : Prop := ∃ own vs vx vw, WdAt own w p d m W ps vs vx vw ∧ (∀ b, K b → own b = 0 ∧ b < w0.heap.size) ∧ Keeps K w0 w
variable {K : Nat → Prop} {w0 : World}

theorem WdAt.keep {own : Nat → Nat} {w w' : World} {p d m : Nat} {W : Wd} {ps : Nat → Nat} {vs : Value} {vx vw : Nat → Value} (h : WdAt own w p d m W ps vs vx vw) (hs : w.heap.size ≤ w'.heap.size) (hb : ∀ b, own b ≠ 0 → w'.heap[b]? = w.heap[b]?) : WdAt own w' p d m W ps vs vx vw :=
  ⟨(hb p (by rw [h.op]; omega)).trans h.blk, h.op, ownsRow_block h.row (fun b e => hb b (by rw [h.ors b e]; omega)), h.ors, h.desk.keep hs (fun b e => hb b (by omega)), fun i hi => (h.side i hi).keep (fun b e _ => hb b (by omega)), fun b e => Nat.lt_of_lt_of_le (h.lt b e) hs, h.few⟩
theorem WdAt.below {own : Nat → Nat} {w w' : World} {p d m : Nat} {W : Wd} {ps : Nat → Nat} {vs : Value} {vx vw : Nat → Value} (h : WdAt own w p d m W ps vs vx vw) (hb : Below w.heap.size w w') : WdAt own w' p d m W ps vs vx vw := h.keep hb.size (fun b e => hb.block b (h.lt b e))
theorem WdSt.below {w w' : World} {p d m : Nat} {ps : Nat → Nat} {W : Wd} (h : WdSt K w0 w p d m ps W) (hb : Below w.heap.size w w') : WdSt K w0 w' p d m ps W := by
  obtain ⟨own, vs, vx, vw, h, h2, h3⟩ := h
  exact ⟨own, vs, vx, vw, h.below hb, h2, h3.below hb (fun b e => (h2 b e).2)⟩
theorem WdSt.drewN {w : World} {p d m n : Nat} {ps : Nat → Nat} {W : Wd} (h : WdSt K w0 w p d m ps W) : WdSt K w0 (w.drewN n) p d m ps W := h.below ⟨rfl, rfl, rfl, Nat.le_refl _, fun _ _ => rfl⟩
theorem WdSt.drew {w : World} {p d m : Nat} {ps : Nat → Nat} {W : Wd} (h : WdSt K w0 w p d m ps W) : WdSt K w0 w.drew p d m ps W := h.below ⟨rfl, rfl, rfl, Nat.le_refl _, fun _ _ => rfl⟩

/-- The desk has taken a step. -/
theorem WdAt.deskStep {own : Nat → Nat} {w w' : World} {p d m : Nat} {W : Wd} {ps : Nat → Nat} {vs : Value} {vx vw : Nat → Value} {D' : Dk} (h : WdAt own w p d m W ps vs vx vw) (h2K : ∀ b, K b → own b = 0 ∧ b < w0.heap.size) (hk : Keeps K w0 w) (hd : DeskStep (fun b => own b = 1) w w' d D') : WdSt K w0 w' p d m ps { W with D := D' } := by
  obtain ⟨F', h1, h2, h3⟩ := hd
  have hkeep : ∀ b, own b ≠ 0 → own b ≠ 1 → w'.heap[b]? = w.heap[b]? := fun b h0 h1 => h3.block b (h.lt b h0) h1
  have hF' : ∀ b, F' b → own b = 1 ∨ own b = 0 := by
    intro b hb
    rcases h2 b hb with e | e
    · exact .inl e
    · refine .inr (Decidable.byContradiction fun hn => ?_)
      have := h.lt b hn; omega
  obtain ⟨vt, vk, rs, hin⟩ := h1
  refine ⟨fun b => if own b = 0 then (if b < w'.heap.size ∧ w.heap.size ≤ b then 1 else 0) else own b, vs, vx, vw, ?_, fun b e => ⟨?_, (h2K b e).2⟩, hk.fr h3 (fun b e => (h2K b e).2) (fun b e e' => by have := (h2K b e).1; omega)⟩
  rotate_left
  · have := h2K b e
    have := hk.size
    simp only [(h2K b e).1, if_true]
    rw [if_neg (by omega)]
  have hold : ∀ b n, n ≠ 0 → own b = n → (if own b = 0 then (if b < w'.heap.size ∧ w.heap.size ≤ b then 1 else 0) else own b) = n := fun b n hn e => by rw [if_neg (by omega)]; exact e
  have hFn : ∀ b, F' b → (if own b = 0 then (if b < w'.heap.size ∧ w.heap.size ≤ b then 1 else 0) else own b) = 1 := by
    intro b hb
    by_cases e : own b = 0
    · have hle : w.heap.size ≤ b := by
        rcases h2 b hb with e' | e'
        · omega
        · exact e'
      rw [if_pos e, if_pos ⟨hin.flt b hb, hle⟩]
    · rw [if_neg e]
      rcases hF' b hb with e' | e'
      · exact e'
      · exact absurd e' e
  refine ⟨(hkeep p (by rw [h.op]; omega) (by rw [h.op]; omega)).trans h.blk, hold p 1000 (by omega) h.op, ownsRow_block h.row (fun b e => hkeep b (by rw [h.ors b e]; omega) (by rw [h.ors b e]; omega)), fun b e => hold b 1000 (by omega) (h.ors b e), ?_, fun i hi => ?_, fun b e => ?_, h.few⟩
  · refine ⟨vt, vk, rs, hin.blk, hFn d hin.fd, hin.tp, fun b e => hFn b (hin.ftp b e), hin.row, fun b e => hFn b (hin.frow b e), hin.len, fun i hi => (hin.lv i hi).mono (fun b e _ => hFn b e), fun i hi => hFn _ (hin.flv i hi), fun b e => ?_, hin.tk, fun i hi b e => hFn _ (hin.ftk i hi b e), hin.dtk⟩
    by_cases e0 : own b = 0
    · rw [if_pos e0] at e
      by_cases e1 : b < w'.heap.size ∧ w.heap.size ≤ b
      · exact e1.1
      · rw [if_neg e1] at e; omega
    · exact Nat.lt_of_lt_of_le (h.lt b e0) h3.size
  · have hs := (h.side i hi).keep (w' := w') (fun b e _ => hkeep b (by omega) (by omega))
    exact ⟨hs.blk, hold _ _ (by omega) hs.gp, hs.ix, hs.iw, fun b e => hold _ _ (by omega) (hs.gx b e), fun b e => hold _ _ (by omega) (hs.gw b e), hs.ne, hs.len⟩
  · by_cases e0 : own b = 0
    · rw [if_pos e0] at e
      by_cases e1 : b < w'.heap.size ∧ w.heap.size ≤ b
      · exact e1.1
      · rw [if_neg e1] at e; omega
    · exact Nat.lt_of_lt_of_le (h.lt b e0) h3.size

/-- A side has taken a step. -/
theorem WdAt.sideStep {own : Nat → Nat} {w w' : World} {p d m i : Nat} {W : Wd} {ps : Nat → Nat} {vs : Value} {vx vw : Nat → Value} {s' : Sd} {vx' vw' : Value} (h : WdAt own w p d m W ps vs vx vw) (hi : i < m)
    (hs : SideAt (fun b => (own b = 2 + i ∨ w.heap.size ≤ b) ∧ b < w'.heap.size) w' (ps i) s' vx' vw') (hf : Fr (fun b => own b = 2 + i) w w') (h2K : ∀ b, K b → own b = 0 ∧ b < w0.heap.size) (hk : Keeps K w0 w) : WdSt K w0 w' p d m ps { W with sd := fun j => if j = i then s' else W.sd j } := by
  have hm := h.few
  have hkeep : ∀ b, own b ≠ 0 → own b ≠ 2 + i → w'.heap[b]? = w.heap[b]? := fun b h0 h1 => hf.block b (h.lt b h0) h1
  have hold : ∀ b n, n ≠ 0 → own b = n → (if own b = 0 then (if b < w'.heap.size ∧ w.heap.size ≤ b then 2 + i else 0) else own b) = n := fun b n hn e => by rw [if_neg (by omega)]; exact e
  have hGn : ∀ b, (own b = 2 + i ∨ w.heap.size ≤ b) ∧ b < w'.heap.size → (if own b = 0 then (if b < w'.heap.size ∧ w.heap.size ≤ b then 2 + i else 0) else own b) = 2 + i := by
    intro b hb
    by_cases e : own b = 0
    · have hle : w.heap.size ≤ b := by
        rcases hb.1 with e' | e'
        · omega
        · exact e'
      rw [if_pos e, if_pos ⟨hb.2, hle⟩]
    · rw [if_neg e]
      rcases hb.1 with e' | e'
      · exact e'
      · have := h.lt b e; omega
  obtain ⟨vt, vk, rs, hin⟩ := h.desk
  have hin' := hin.keep hf.size (fun b e => hkeep b (by omega) (by omega))
  refine ⟨fun b => if own b = 0 then (if b < w'.heap.size ∧ w.heap.size ≤ b then 2 + i else 0) else own b, vs, fun j => if j = i then vx' else vx j, fun j => if j = i then vw' else vw j, ?_, fun b e => ⟨?_, (h2K b e).2⟩, hk.fr hf (fun b e => (h2K b e).2) (fun b e e' => by have := (h2K b e).1; omega)⟩
  rotate_left
  · have := h2K b e
    have := hk.size
    simp only [(h2K b e).1, if_true]
    rw [if_neg (by omega)]
  refine ⟨(hkeep p (by rw [h.op]; omega) (by rw [h.op]; omega)).trans h.blk, hold p 1000 (by omega) h.op, ownsRow_block h.row (fun b e => hkeep b (by rw [h.ors b e]; omega) (by rw [h.ors b e]; omega)), fun b e => hold b 1000 (by omega) (h.ors b e), ?_, fun j hj => ?_, fun b e => ?_, h.few⟩
  · refine ⟨vt, vk, rs, hin'.blk, hold _ _ (by omega) hin'.fd, hin'.tp, fun b e => hold _ _ (by omega) (hin'.ftp b e), hin'.row, fun b e => hold _ _ (by omega) (hin'.frow b e), hin'.len, fun i hi => (hin'.lv i hi).mono (fun b e _ => hold _ _ (by omega) e), fun i hi => hold _ _ (by omega) (hin'.flv i hi), fun b e => ?_, hin'.tk, fun i hi b e => hold _ _ (by omega) (hin'.ftk i hi b e), hin'.dtk⟩
    by_cases e0 : own b = 0
    · rw [if_pos e0] at e
      by_cases e1 : b < w'.heap.size ∧ w.heap.size ≤ b
      · exact e1.1
      · rw [if_neg e1] at e; omega
    · exact Nat.lt_of_lt_of_le (h.lt b e0) hf.size
  · by_cases e : j = i
    · subst e
      simp only [if_true]
      exact ⟨hs.blk, hGn _ hs.gp, hs.ix, hs.iw, fun b e => hGn b (hs.gx b e), fun b e => hGn b (hs.gw b e), hs.ne, hs.len⟩
    · simp only [if_neg e]
      have hs := (h.side j hj).keep (w' := w') (fun b e' _ => hkeep b (by omega) (by omega))
      exact ⟨hs.blk, hold _ _ (by omega) hs.gp, hs.ix, hs.iw, fun b e => hold _ _ (by omega) (hs.gx b e), fun b e => hold _ _ (by omega) (hs.gw b e), hs.ne, hs.len⟩
  · by_cases e0 : own b = 0
    · rw [if_pos e0] at e
      by_cases e1 : b < w'.heap.size ∧ w.heap.size ≤ b
      · exact e1.1
      · rw [if_neg e1] at e; omega
    · exact Nat.lt_of_lt_of_le (h.lt b e0) hf.size

theorem blk7 {w : World} {r : Nat} {a b c d x y z : Value} {e : TypeId} (h : w.heap[r]? = some (.cells #[a, b, c, d, x, y, z] e (0, 0))) :
    w.cell? ⟨r, 0, none⟩ = some a ∧ w.cell? ⟨r, 1, none⟩ = some b ∧ w.cell? ⟨r, 2, none⟩ = some c ∧ w.cell? ⟨r, 3, none⟩ = some d ∧ w.cell? ⟨r, 4, none⟩ = some x ∧ w.cell? ⟨r, 5, none⟩ = some y ∧ w.cell? ⟨r, 6, none⟩ = some z ∧ (∀ o, w.frozen? ⟨r, o, none⟩ = false) := by
  refine ⟨?_, ?_, ?_, ?_, ?_, ?_, ?_, fun o => ?_⟩ <;> simp [World.cell?, World.frozen?, h]

/-- The world's own cells have turned. -/
theorem WdAt.own {own : Nat → Nat} {w w' : World} {p d m : Nat} {W W' : Wd} {ps : Nat → Nat} {vs : Value} {vx vw : Nat → Value} (h : WdAt own w p d m W ps vs vx vw) (hs : w'.heap.size = w.heap.size) (hb : ∀ b, b ≠ p → w'.heap[b]? = w.heap[b]?) (hp : w'.heap[p]? = some (wdBlk d vs W')) (hD : W'.D = W.D) (hsd : W'.sd = W.sd) (h2K : ∀ b, K b → own b = 0 ∧ b < w0.heap.size) (hk : Keeps K w0 w) (ho : w'.os = w.os) (ht : w'.tape = w.tape) (hou : w'.output = w.output) : WdSt K w0 w' p d m ps W' := by
  have hm := h.few
  refine ⟨own, vs, vx, vw, ⟨hp, h.op, ownsRow_block h.row (fun b e => hb b (fun e' => ?_)), h.ors, ?_, fun i hi => ?_, fun b e => by rw [hs]; exact h.lt b e, h.few⟩, h2K, ⟨ho.trans hk.os, ht.trans hk.tape, hou.trans hk.output, by rw [hs]; exact hk.size, fun b e => (hb b (fun e' => by subst e'; have := (h2K b e).1; rw [h.op] at this; omega)).trans (hk.block b e)⟩⟩
  · subst e'
    rcases h.row.2 with ⟨e', _⟩ | ⟨g', c', cur, e', _, hh, _⟩
    · rw [e'] at e; simp [Value.ownBlock] at e
    · rw [e'] at e; simp [Value.ownBlock] at e; subst e
      rw [h.blk] at hh; cases hh
  · rw [hD]
    exact h.desk.keep (Nat.le_of_eq hs.symm) (fun b e => hb b (fun e' => by subst e'; rw [h.op] at e; omega))
  · rw [hsd]
    exact (h.side i hi).keep (fun b e _ => hb b (fun e' => by subst e'; rw [h.op] at e; omega))

/-- The pointer to side i. -/
theorem WdAt.ptr {own : Nat → Nat} {w : World} {p d m i : Nat} {W : Wd} {ps : Nat → Nat} {vs : Value} {vx vw : Nat → Value} (h : WdAt own w p d m W ps vs vx vw) (hi : i < m) : ∃ g c, vs = .slice (some ⟨g, 0, none⟩) m c ∧ w.cell? ⟨g, i, none⟩ = some (.pointer (some ⟨ps i, 0, none⟩)) := by
  have h' := h.row
  rcases h.row.2 with ⟨_, hn⟩ | ⟨g, c, cur, e, _⟩
  · omega
  · refine ⟨g, c, e, ?_⟩
    rw [e] at h'
    exact ownsRow_cell h' (by simp [ptrs, hi])

end Go.Proofs.Ytklicjbpjigfdab

/- DERIVED. The walks of small functions of the statement's text: pick, power, weight, clean. -/
namespace Go.Proofs.Ytklicjbpjigfdab
open Go.RowKit

/-- Which of n things the raw number speaks of. -/
def pickN (c : Int) (n : Nat) : Nat := ((if c < 0 then -(c + 1) else c) % (n : Int)).toNat
theorem pickN_lt (c : Int) {n : Nat} (h : 0 < n) : pickN c n < n := by
  unfold pickN
  have h1 := Int.emod_lt_of_pos (if c < 0 then -(c + 1) else c) (show (0 : Int) < (n : Int) by omega)
  have h2 := Int.emod_nonneg (if c < 0 then -(c + 1) else c) (show (n : Int) ≠ 0 by omega)
  omega
theorem pickN_cast (c : Int) {n : Nat} (h : 0 < n) : (pickN c n : Int) = (if c < 0 then -(c + 1) else c) % (n : Int) := by
  unfold pickN
  exact Int.toNat_of_nonneg (Int.emod_nonneg _ (by omega))

set_option maxHeartbeats 400000 in
theorem pick_any (c : Int) (n : Nat) (w : World) (h1 : -9223372036854775808 ≤ c) (h2 : c ≤ 9223372036854775807) (hn1 : 1 ≤ n) (hn2 : n ≤ 1099511627776) :
    Calls Try.prog 9 #[.int .i64 c, .int .i64 (n : Int)] w fun e w' => e = .returned (.int .i64 (pickN c n : Int)) ∧ w' = w := by
  have HP := hid (pickN_cast c (n := n) (by omega))
  by_cases h0 : c < 0
  · rw [if_pos h0] at HP
    go_enter Try.func9, Try.ntmps9
    go_wp2
    go_ret
    exact ⟨ret_int (by rw [HP.out, ← Int.neg_tmod, Int.tmod_eq_emod_of_nonneg (by omega)]), rfl⟩
  · rw [if_neg h0] at HP
    go_enter Try.func9, Try.ntmps9
    go_wp2
    go_ret
    exact ⟨ret_int (by rw [HP.out]), rfl⟩

set_option maxHeartbeats 400000 in
theorem power_any (h : Nat) (w : World) (hh : h ≤ 30) :
    Calls Try.prog 45 #[.int .i64 (h : Int)] w fun e w' => e = .returned (.int .i64 ((2 ^ h : Nat) : Int)) ∧ w' = w := by
  go_enter Try.func45, Try.ntmps45
  go_wp2
  go_loop [3, 4] (fun a i => ∃ j : Nat, j ≤ h ∧ i = .int .i64 j ∧ a = .int .i64 ((2 ^ j : Nat) : Int)) (fun _ i => h - (intOf i).toNat)
  case atStart => exact ⟨0, Nat.zero_le _, rfl, rfl⟩
  case round =>
    obtain ⟨j, hj, rfl, rfl⟩ := hrel
    have b2 := pow2_bd (j := j) (by omega)
    by_cases hlt : j < h
    · have HS2 : Hid ((2 ^ (j + 1) : Nat) = 2 ^ j * 2) := Nat.pow_succ ..
      generalize 2 ^ j = p2 at *
      go_wp2
      go_round
      case rel => exact ⟨j + 1, by omega, by go_num, by rw [HS2.out]; go_num⟩
      case measure => simp [intOf]; omega
    · have : j = h := by omega
      subst this
      go_wp2
      go_ret
      exact ⟨rfl, rfl⟩

def weightN (c : Int) : Nat := 1 + pickN c 268435456
set_option maxHeartbeats 400000 in
theorem weight_any (c : Int) (w : World) (h1 : -9223372036854775808 ≤ c) (h2 : c ≤ 9223372036854775807) :
    Calls Try.prog 40 #[.int .i64 c] w fun e w' => e = .returned (.int .i64 (weightN c : Int)) ∧ w' = w := by
  have HP := hid (pick_any c 268435456 w h1 h2 (by omega) (by omega))
  have hl := pickN_lt c (n := 268435456) (by omega)
  have HW : Hid (weightN c = 1 + pickN c 268435456) := rfl
  generalize pickN c 268435456 = q at *
  go_enter Try.func40, Try.ntmps40
  go_wp2_with (go_at_call 9; refine HP.out.mono ?_; rintro e w' ⟨rfl, hw⟩; obtain rfl := hw.symm)
  go_ret
  exact ⟨ret_int (by rw [HW.out]; go_num), rfl⟩

set_option maxHeartbeats 400000 in
theorem clean_any {K : Nat → Prop} {w0 : World} (p d m : Nat) (ps : Nat → Nat) (W : Wd) (w : World) (h : WdSt K w0 w p d m ps W) :
    Calls Try.prog 72 #[.pointer (some ⟨p, 0, none⟩)] w fun e w' => e = .returned (.bool (decide (W.D.tape.length = 0))) ∧ w' = w := by
  obtain ⟨own, vs, vx, vw, h, _⟩ := h
  obtain ⟨c0, _⟩ := blk7 h.blk
  have HL := hid (deskLeft d W.D w h.desk)
  generalize W.D.tape.length = tl at *
  clear h
  go_enter Try.func72, Try.ntmps72
  go_wp2_with (go_at_call 64; refine HL.out.mono ?_; rintro e w' ⟨rfl, hw⟩; obtain rfl := hw.symm)
  go_ret
  refine ⟨?_, rfl⟩
  by_cases h0 : tl = 0
  · subst h0; rfl
  · have : ((tl : Int) == 0) = false := by simpa using h0
    simp [this, h0]

end Go.Proofs.Ytklicjbpjigfdab

/- DERIVED. The walks of coin and more: one coin more is laid on the tape. -/
namespace Go.Proofs.Ytklicjbpjigfdab
open Go.RowKit
variable {K : Nat → Prop} {w0 : World}

/-- The coin that comes next, and the place behind it. -/
def coinOf (c : ByteArray) (a : Nat) : Bool := if h : 0 < c.size then (((c[a % c.size]'(Nat.mod_lt _ h)).toNat : Int) % 2 == 1) else false
def atOf (c : ByteArray) (a : Nat) : Nat := if c.size = 0 then a else (a + 1) % c.size
/-- The first n coins from place a on, and the place behind them. -/
def ats (c : ByteArray) (a : Nat) : Nat → Nat
  | 0 => a
  | n + 1 => atOf c (ats c a n)
def drw (c : ByteArray) (a : Nat) : Nat → List Bool
  | 0 => []
  | n + 1 => drw c a n ++ [coinOf c (ats c a n)]
theorem drw_length (c : ByteArray) (a : Nat) : ∀ n, (drw c a n).length = n
  | 0 => rfl
  | n + 1 => by simp [drw, drw_length c a n]
/-- The coins cs are the next ones; a is the place behind them. -/
def DrawOk (W : Wd) (cs : List Bool) (a : Nat) : Prop := a ≤ 140737488355328 ∧ cs = drw W.coins W.at_ cs.length ∧ a = ats W.coins W.at_ cs.length
theorem DrawOk.snoc {W : Wd} {cs : List Bool} {a a2 : Nat} {b : Bool} (h : DrawOk W cs a) (h2 : a2 ≤ 140737488355328 ∧ b = coinOf W.coins a ∧ a2 = atOf W.coins a) : DrawOk W (cs ++ [b]) a2 := by
  obtain ⟨_, h3, h4⟩ := h
  obtain ⟨h5, h6, h7⟩ := h2
  refine ⟨h5, ?_, ?_⟩
  · rw [List.length_append, List.length_cons, List.length_nil, Nat.zero_add, drw, ← h3, ← h4, h6]
  · rw [List.length_append, List.length_cons, List.length_nil, Nat.zero_add, ats, ← h4, h7]

/-- A text of one coin. -/
def OneCoin (s : ByteArray) : Prop := s.size = 1 ∧ areCoins s.data.toList = true

theorem wd_set3 {w : World} {p d m : Nat} {own : Nat → Nat} {W : Wd} {ps : Nat → Nat} {vs : Value} {vx vw : Nat → Value} (h : WdAt own w p d m W ps vs vx vw) (h2K : ∀ b, K b → own b = 0 ∧ b < w0.heap.size) (hk : Keeps K w0 w) (a : Nat) : WdSt K w0 (w.setCell ⟨p, 3, none⟩ (.int .i64 (a : Int))) p d m ps { W with at_ := a } := by
  refine h.own (by rw [setCell_size]) (fun b hb => Below.heap_setCell _ _ _ _ hb) ?_ rfl rfl h2K hk rfl rfl rfl
  have := blk_set (i := 3) (.int .i64 (a : Int)) h.blk
  simpa using this
theorem wd_set4 {w : World} {p d m : Nat} {own : Nat → Nat} {W : Wd} {ps : Nat → Nat} {vs : Value} {vx vw : Nat → Value} (h : WdAt own w p d m W ps vs vx vw) (h2K : ∀ b, K b → own b = 0 ∧ b < w0.heap.size) (hk : Keeps K w0 w) (a : Nat) : WdSt K w0 (w.setCell ⟨p, 4, none⟩ (.int .i64 (a : Int))) p d m ps { W with used := a } := by
  refine h.own (by rw [setCell_size]) (fun b hb => Below.heap_setCell _ _ _ _ hb) ?_ rfl rfl h2K hk rfl rfl rfl
  have := blk_set (i := 4) (.int .i64 (a : Int)) h.blk
  simpa using this

set_option maxHeartbeats 1000000 in
set_option maxRecDepth 100000 in
theorem coin_any (p d m : Nat) (ps : Nat → Nat) (W : Wd) (w : World) (h : WdSt K w0 w p d m ps W) (hat : W.at_ ≤ 140737488355328) (hcs : W.coins.size ≤ 140737488355328) :
    Calls Try.prog 95 #[.pointer (some ⟨p, 0, none⟩)] w fun e w' => ∃ s a, e = .returned (.string s) ∧ OneCoin s ∧ (a ≤ 140737488355328 ∧ coinsOf s.data.toList = [coinOf W.coins W.at_] ∧ a = atOf W.coins W.at_) ∧ WdSt K w0 w' p d m ps { W with at_ := a } := by
  have HST := hid h
  obtain ⟨own, vs, vx, vw, h, h2K, hk⟩ := h
  obtain ⟨c0, c1, c2, c3, c4, c5, c6, cz⟩ := blk7 h.blk
  have HH := hid h
  have H2 := hid h2K
  have HK := hid hk
  clear h h2K hk
  by_cases h0 : W.coins.size = 0
  · have h0' : ((W.coins.size : Int) == 0) = true := by simp [h0]
    have H0 := hid h0
    clear h0
    go_enter Try.func95, Try.ntmps95
    go_wp2_with fail
    go_ret
    refine ⟨_, W.at_, rfl, ⟨rfl, rfl⟩, ⟨hat, ?_, ?_⟩, HST.out⟩
    · unfold coinOf; rw [dif_neg (by rw [H0.out]; omega)]; rfl
    · unfold atOf; rw [if_pos H0.out]
  · have h0' : ((W.coins.size : Int) == 0) = false := by simpa using h0
    have hn1 : 0 < W.coins.size := by omega
    have hm1 : W.at_ % W.coins.size < W.coins.size := Nat.mod_lt _ hn1
    have hm2 : (W.at_ + 1) % W.coins.size < W.coins.size := Nat.mod_lt _ hn1
    have hm3 : (W.at_ : Int) % (W.coins.size : Int) < (W.coins.size : Int) := by omega
    have hm4 : (0 : Int) ≤ (W.at_ : Int) % (W.coins.size : Int) := by omega
    have hz : (W.coins.size : Int) ≠ 0 := by omega
    go_enter Try.func95, Try.ntmps95
    go_wp2_with fail
    go_quiet (fail)
    go_wp2_with fail
    go_region
    go_wp2_with fail
    all_goals
      go_ret
      have hw := wd_set3 HH.out H2.out HK.out ((W.at_ + 1) % W.coins.size)
      rw [show (((W.at_ + 1) % W.coins.size : Nat) : Int) = ((W.at_ : Int) + 1) % (W.coins.size : Int) from by rw [Int.natCast_emod, Int.natCast_add]; rfl] at hw
      refine ⟨_, (W.at_ + 1) % W.coins.size, rfl, ⟨rfl, rfl⟩, ⟨by omega, ?_, ?_⟩, by first | exact hw.drewN.drew | exact hw.drew.drewN | exact hw.drewN⟩
      · have e9 : coinOf W.coins W.at_ = (((W.coins[W.at_ % W.coins.size]'hm1).toNat : Int) % 2 == 1) := by unfold coinOf; rw [dif_pos hn1]
        rw [e9]
        rename_i hbit
        rw [hbit]; rfl
      · unfold atOf; rw [if_neg h0]

theorem oneCoin_len {s : ByteArray} (h : OneCoin s) : (coinsOf s.data.toList).length = 1 := by
  have := h.1
  simp [coinsOf]
  exact this

set_option maxHeartbeats 1000000 in
set_option maxRecDepth 100000 in
theorem more_any (p d m : Nat) (ps : Nat → Nat) (W : Wd) (w : World) (h : WdSt K w0 w p d m ps W) (hat : W.at_ ≤ 140737488355328) (hcs : W.coins.size ≤ 140737488355328) (hmost : W.most = -1) (hus : W.used ≤ 1152921504606846976) (htp : W.D.tape.length < 1024) :
    Calls Try.prog 73 #[.pointer (some ⟨p, 0, none⟩)] w fun e w' => ∃ c a, e = .returned (.bool true) ∧ (a ≤ 140737488355328 ∧ c = coinOf W.coins W.at_ ∧ a = atOf W.coins W.at_) ∧ WdSt K w0 w' p d m ps { W with at_ := a, used := W.used + 1, D := { W.D with tape := W.D.tape ++ [c] } } := by
  obtain ⟨own, vs, vx, vw, h, h2K, hk⟩ := h
  obtain ⟨c0, c1, c2, c3, c4, c5, c6, cz⟩ := blk7 h.blk
  rw [hmost] at c5
  have HW4 := hid (fun (n : Nat) => wd_set4 (K := K) (w0 := w0) (h.below (w' := w.drewN n) ⟨rfl, rfl, rfl, Nat.le_refl _, fun _ _ => rfl⟩) h2K (hk.below ⟨rfl, rfl, rfl, Nat.le_refl _, fun _ _ => rfl⟩ (fun b e => (h2K b e).2)) (W.used + 1))
  have hg : decide ((0 : Int) ≤ -1) = false := by decide
  clear h h2K hk
  go_enter Try.func73, Try.ntmps73
  go_wp2_with fail
  go_quiet (fail)
  go_wp2_with fail
  have hw4 := HW4.out nq
  rw [show ((W.used + 1 : Nat) : Int) = (W.used : Int) + 1 by omega] at hw4
  refine (coin_any p d m ps _ _ hw4 hat hcs).mono ?_
  rintro e w1 ⟨s, a, rfl, hs, ha, h1⟩
  have HS := hid hs
  have HA := hid ha
  clear hw4 HW4 ha c0 c1 c2 c3 c4 c5 c6 cz
  obtain ⟨own, vs, vx, vw, h, h2K, hk⟩ := h1
  obtain ⟨d0, d1, d2, d3, d4, d5, d6, dz⟩ := blk7 h.blk
  have HF := hid (deskFeed d W.D s w1 h.desk hs.2 (by have := hs.1; omega))
  have HH := hid h
  have H2 := hid h2K
  have HK := hid hk
  clear h h2K hk hs
  go_wp2_with fail
  refine HF.out.mono ?_
  rintro e w2 ⟨rfl, hst⟩
  have hfin := HH.out.deskStep H2.out HK.out hst
  have ha2 := HA.out
  rw [ha2.2.1] at hfin
  have HFIN := hid hfin
  clear hfin hst ha2
  go_wp2_with fail
  go_ret
  exact ⟨_, a, rfl, ⟨HA.out.1, rfl, HA.out.2.2⟩, HFIN.out⟩

end Go.Proofs.Ytklicjbpjigfdab

/- DERIVED. The walk of the statement's own add: a number comes into sketch i, a coin more each time till the coins suffice. -/
namespace Go.Proofs.Ytklicjbpjigfdab
open Go.RowKit
variable {K : Nat → Prop} {w0 : World} {nw : Nat}

theorem wd_eta {W : Wd} (h : W.D.tape = []) : W = { W with D := { W.D with tape := [] }, used := W.used + ([] : List Bool).length, at_ := W.at_ } := by
  obtain ⟨⟨r, t, k⟩, sd, co, a, u, m, sh⟩ := W
  simp at h
  subst h
  rfl

/-- What the desk and a side must be for a number to come in. -/
structure InOk (h : Hd) (s : Sd) : Prop where
  ok : h.Ok
  n : s.n = wsum h.sk.lv
  set : nsum h.sk.lv ≤ capSum h.sk.k h.sk.lv.length
  xl : s.xs.length ≤ 1099511627
  wl : ∀ i, s.ws.getD i 0 ≤ 268435456

/-- The side behind it. -/
def Sd.took (s : Sd) (x : Int) (wt : Nat) : Sd := { s.put x wt with ones := s.ones && (wt == 1) }
/-- The world behind it. -/
def Wd.took (W : Wd) (i : Nat) (x : Int) (wt : Nat) (L' : List Lvl) (u a : Nat) : Wd :=
  { W with D := { W.D with tape := [], sks := W.D.sks.set i { sk := { k := (W.D.sks.getD i Hd.none).sk.k, lv := L', lo := addLo (W.D.sks.getD i Hd.none) x, hi := addHi (W.D.sks.getD i Hd.none) x }, sealed := (W.D.sks.getD i Hd.none).sealed, taken := (W.D.sks.getD i Hd.none).taken } }, sd := fun j => if j = i then (W.sd i).took x wt else W.sd j, used := W.used + u, at_ := a }
/-- What add leaves. -/
def AddPost (K : Nat → Prop) (w0 : World) (p d nw i : Nat) (ps : Nat → Nat) (x : Int) (wt : Nat) (W : Wd) (w' : World) : Prop :=
  (268435456 < wsum (W.D.sks.getD i Hd.none).sk.lv + wt ∧ WdSt K w0 w' p d nw ps W) ∨
  (wsum (W.D.sks.getD i Hd.none).sk.lv + wt ≤ 268435456 ∧ ∃ cs L' a, DrawOk W cs a ∧ settle (W.D.sks.getD i Hd.none).sk.k cs 0 (addL (W.D.sks.getD i Hd.none) x wt) = some (L', cs.length) ∧ cs.length ≤ 29 ∧ WdSt K w0 w' p d nw ps (W.took i x wt L' cs.length a))

theorem sd_set4 {w : World} {p d m i : Nat} {own : Nat → Nat} {W : Wd} {ps : Nat → Nat} {vs : Value} {vx vw : Nat → Value} (h : WdAt own w p d m W ps vs vx vw) (hi : i < m) (h2K : ∀ b, K b → own b = 0 ∧ b < w0.heap.size) (hk : Keeps K w0 w) (o : Bool) : WdSt K w0 (w.setCell ⟨ps i, 4, none⟩ (.bool o)) p d m ps { W with sd := fun j => if j = i then { W.sd i with ones := o } else W.sd j } := by
  have hs := h.side i hi
  have hf : Fr (fun b => own b = 2 + i) w (w.setCell ⟨ps i, 4, none⟩ (.bool o)) := (Fr.refl _ w).set (fun _ => hs.gp) _
  have hkI : IntsKept w (w.setCell ⟨ps i, 4, none⟩ (.bool o)) := IntsKept.set hs.blk (by decide)
  refine h.sideStep hi (vx' := vx i) (vw' := vw i) ⟨?_, ⟨.inl hs.gp, by rw [setCell_size]; exact lt_of_blk' hs.blk⟩, hs.ix.kept hkI, hs.iw.kept hkI, fun b e => ⟨.inl (hs.gx b e), by rw [setCell_size]; exact ownsRow_lt hs.ix e⟩, fun b e => ⟨.inl (hs.gw b e), by rw [setCell_size]; exact ownsRow_lt hs.iw e⟩, hs.ne, hs.len⟩ hf h2K hk
  have := blk_set (i := 4) (.bool o) hs.blk
  simpa using this

set_option maxHeartbeats 2000000 in
set_option maxRecDepth 100000 in
theorem wadd_any (p d i wt : Nat) (x : Int) (ps : Nat → Nat) (W : Wd) (w : World) (h : WdSt K w0 w p d nw ps W) (hi : i < nw) (hl : W.D.sks.length = nw) (hun : (W.D.sks.getD i Hd.none).sealed = false) (hok : InOk (W.D.sks.getD i Hd.none) (W.sd i)) (htp : W.D.tape = []) (hw1 : 1 ≤ wt) (hw2 : wt ≤ 268435456) (hat : W.at_ ≤ 140737488355328) (hcs : W.coins.size ≤ 140737488355328) (hmost : W.most = -1) (hus : W.used ≤ 1099511627776) :
    Calls Try.prog 41 #[.pointer (some ⟨p, 0, none⟩), .int .i64 (i : Int), .int .i64 x, .int .i64 (wt : Int)] w fun e w' => e = .returned (.bool true) ∧ AddPost K w0 p d nw i ps x wt W w' := by
  have HST := hid h
  obtain ⟨own, vs, vx, vw, h, h2K, hk⟩ := h
  obtain ⟨gs, cs0, evs, hptr⟩ := h.ptr hi
  obtain ⟨c0, c1, c2, c3, c4, c5, c6, cz⟩ := blk7 h.blk
  rw [evs] at c1
  have HOK := hid hok
  have HUN := hid hun
  clear hun
  have HTP := hid htp
  have HL := hid hl
  have HMO := hid hmost
  have hb29 : nsum (addL (W.D.sks.getD i Hd.none) x wt) ≤ capSum (W.D.sks.getD i Hd.none).sk.k (addL (W.D.sks.getD i Hd.none) x wt).length + 29 := by
    have e1 := withFrom_nsum (x := x) (f := 29) (w := wt) (h := 0) (L := (W.D.sks.getD i Hd.none).sk.lv) (Nat.zero_le _)
    have e2 := withFrom_length_ge (x := x) (f := 29) (w := wt) (h := 0) (L := (W.D.sks.getD i Hd.none).sk.lv) (Nat.zero_le _)
    have e3 := capSum_mono (k := (W.D.sks.getD i Hd.none).sk.k) e2
    have := hok.set
    unfold addL
    omega
  have HB := hid hb29
  generalize hpi : ps i = pi at *
  clear h h2K hk evs hok htp hl hb29 hmost
  go_enter Try.func41, Try.ntmps41
  go_wp2_with fail
  go_loopw [10] (fun si wr => ∃ (cs : List Bool) (a : Nat), si = .int .i64 (cs.length : Int) ∧ Hid (DrawOk W cs a) ∧ cs.length ≤ 29 ∧ Hid (WdSt K w0 wr p d nw ps { W with D := { W.D with tape := cs }, used := W.used + cs.length, at_ := a }) ∧
      Hid ((cs = [] ∧ a = W.at_) ∨ (wsum (W.D.sks.getD i Hd.none).sk.lv + wt ≤ 268435456 ∧ ∃ cs' c, cs = cs' ++ [c] ∧ settle (W.D.sks.getD i Hd.none).sk.k cs' 0 (addL (W.D.sks.getD i Hd.none) x wt) = Option.none))) (fun si _ => 29 - (intOf si).toNat)
  case atStart =>
    refine ⟨[], W.at_, rfl, ⟨hat, rfl, rfl⟩, Nat.zero_le _, ?_, .inl ⟨rfl, rfl⟩⟩
    have := HST.out
    rw [wd_eta HTP.out] at this
    exact this
  case round =>
    obtain ⟨cs, a, rfl, ha, hc29, Hst, Hcs⟩ := hrel
    obtain ⟨own1, vs1, vx1, vw1, h1, h2K1, hk1⟩ := Hst.out
    obtain ⟨d0, d1, d2, d3, d4, d5, d6, dz⟩ := blk7 h1.blk
    have hA := hid (add_any (F := fun b => own1 b = 1) d i wt x { W.D with tape := cs } wr h1.desk (by rw [HL.out]; exact hi) HOK.out.ok HUN.out hw1 hw2 (by show cs.length ≤ 1024; omega))
    have H1 := hid h1
    have H2 := hid h2K1
    have HK := hid hk1
    clear h1 h2K1 hk1 c0 c1 c2 c3 c4 c5 c6 cz hptr
    by_cases hfull : wsum (W.D.sks.getD i Hd.none).sk.lv + wt ≤ 268435456
    · have hfi : ¬ 268435456 - ((W.sd i).n : Int) < (wt : Int) := by rw [HOK.out.n]; omega
      have hnb : (W.sd i).n ≤ 268435456 := by rw [HOK.out.n]; exact HOK.out.ok.cnt
      have HFU := hid hfull
      go_wp2_with fail
      refine hA.out.mono ?_
      intro e w1 hans
      rw [if_pos hfull] at hans
      clear hfull
      cases hset : settle (W.D.sks.getD i Hd.none).sk.k cs 0 (addL (W.D.sks.getD i Hd.none) x wt) with
      | none =>
        have hans' : e = .returned (.int .i64 7) ∧ Below wr.heap.size wr w1 := by
          have h9 := hans
          rw [hset] at h9
          exact h9
        obtain ⟨rfl, hb1⟩ := hans'
        have HSET := hid hset
        have hb9 := settle_none_bound hset
        have hcn : cs.length < 29 := by have := HB.out; omega
        have hst1 := Hst.out.below hb1
        have HM := hid (more_any p d nw ps _ w1 hst1 ha.out.1 hcs HMO.out (by show W.used + cs.length ≤ _; omega) (by show cs.length < 1024; omega))
        clear hans hset hb1 hst1
        go_wp2_with fail
        refine HM.out.mono ?_
        rintro e w2 ⟨c, a2, rfl, ha2, hst2⟩
        have HA2 := hid ha2
        clear ha2
        have HS2 := hid hst2
        clear hst2
        go_wp2_with fail
        go_roundw
        case rel =>
          refine ⟨cs ++ [c], a2, by simp, ha.out.snoc HA2.out, by simp; omega, ?_, .inr ⟨HFU.out, cs, c, rfl, HSET.out⟩⟩
          have := HS2.out
          simpa [Hid, Nat.add_assoc] using this
        case measure => simp [intOf]; omega
      | some q =>
        obtain ⟨L', u⟩ := q
        have hans' : e = .returned (.int .i64 0) ∧ DeskStep (fun b => own1 b = 1) wr w1 d { W.D with tape := cs.drop u, sks := W.D.sks.set i { sk := { k := (W.D.sks.getD i Hd.none).sk.k, lv := L', lo := addLo (W.D.sks.getD i Hd.none) x, hi := addHi (W.D.sks.getD i Hd.none) x }, sealed := (W.D.sks.getD i Hd.none).sealed, taken := (W.D.sks.getD i Hd.none).taken } } := by
          have h9 := hans
          rw [hset] at h9
          exact h9
        obtain ⟨rfl, hst1⟩ := hans'
        have hu : u = cs.length := by
          rcases Hcs.out with ⟨e, _⟩ | ⟨_, cs', c, e, e2⟩
          · subst e; have := settle_used hset; simp at this; simpa using this
          · rw [e] at hset
            have := settle_last e2 hset
            rw [e]; simp; omega
        subst hu
        rw [List.drop_length] at hst1
        have hw1 := H1.out.deskStep H2.out HK.out hst1
        have HSET := hid hset
        have HCL := hid (clean_any p d nw ps _ w1 hw1)
        obtain ⟨own2, vs2, vx2, vw2, h2, h2K2, hk2⟩ := hw1
        have hsd := h2.side i hi
        rw [hpi] at hsd
        obtain ⟨s0, s1, s2, s3, s4, s5, sz⟩ := blk6 hsd.blk
        have s2' : w1.cell? ⟨pi, 2, none⟩ = some (.int .i64 ((W.sd i).n : Int)) := s2
        have HPU := hid (put_any pi (W.sd i) (vx2 i) (vw2 i) x wt w1 hsd (by have := HOK.out.xl; omega) (by omega) (fun j => by have := HOK.out.wl j; omega) (fun b hb => h2.lt b (by omega)))
        have HH2 := hid h2
        have H22 := hid h2K2
        have HK2 := hid hk2
        clear hans hset hst1 h2 h2K2 hk2 hsd s0 s1 s2 s3 s4 s5 sz
        go_wp2_with (first | (go_at_call 72; refine HCL.out.mono ?_; rintro e w' ⟨rfl, hw⟩; obtain rfl := hw.symm))
        refine HPU.out.mono ?_
        rintro e w3 ⟨rfl, vx3, vw3, hs3, hf3⟩
        rw [← hpi] at hs3
        have hst3 := HH2.out.sideStep hi hs3 hf3 H22.out HK2.out
        obtain ⟨own4, vs4, vx4, vw4, h4, h2K4, hk4⟩ := hst3
        have hsd4 := (h4.side i hi).blk
        rw [hpi] at hsd4
        obtain ⟨r0, r1, r2, r3, r4, r5, rz⟩ := blk6 hsd4
        have r4' : w3.cell? ⟨pi, 4, none⟩ = some (.bool (W.sd i).ones) := by simpa [Sd.put] using r4
        have HFI := hid (fun o => sd_set4 (K := K) (w0 := w0) h4 hi h2K4 hk4 o)
        have HWE : Hid (((wt : Int) == 1) = (wt == 1)) := by
          by_cases e : wt = 1
          · subst e; rfl
          · have e1 : ((wt : Int) == 1) = false := by simp; omega
            have e2 : (wt == 1) = false := by simpa using e
            unfold Hid; rw [e1, e2]
        clear hs3 hf3 h4 h2K4 hk4 hsd4 r0 r1 r2 r3 r4 r5 HPU HH2
        generalize hones : (W.sd i).ones = ones at *
        have HON := hid hones
        clear hones
        cases ones
        · go_wp2_with fail
          go_ret
          refine ⟨rfl, .inr ⟨HFU.out, cs, L', a, ha.out, HSET.out, hc29, ?_⟩⟩
          have hfin := HFI.out false
          rw [hpi] at hfin
          refine Eq.mp (congrArg (WdSt K w0 _ p d nw ps) ?_) hfin
          simp only [Wd.took, Wd.mk.injEq, and_true, true_and]
          funext j
          by_cases hj : j = i
          · subst hj; simp [Sd.took, HON.out]
          · simp [hj]
        · go_wp2_with fail
          go_ret
          refine ⟨rfl, .inr ⟨HFU.out, cs, L', a, ha.out, HSET.out, hc29, ?_⟩⟩
          have hfin := HFI.out ((wt : Int) == 1)
          rw [hpi] at hfin
          refine Eq.mp (congrArg (WdSt K w0 _ p d nw ps) ?_) hfin
          rw [HWE.out]
          simp only [Wd.took, Wd.mk.injEq, and_true, true_and]
          funext j
          by_cases hj : j = i
          · subst hj; simp [Sd.took, HON.out]
          · simp [hj]
    · go_wp2_with fail
      refine hA.out.mono ?_
      intro e w1 hans
      rw [if_neg hfull] at hans
      obtain ⟨rfl, hb1⟩ := hans
      have hcs0 : cs = [] ∧ a = W.at_ := by
        rcases Hcs.out with e | e
        · exact e
        · exact absurd e.1 hfull
      obtain ⟨hc0, ha0⟩ := hcs0
      subst hc0
      have HA0 := hid ha0
      clear ha0
      have hst1 := Hst.out.below hb1
      have HCL := hid (clean_any p d nw ps _ w1 hst1)
      obtain ⟨own2, vs2, vx2, vw2, h2, _⟩ := hst1
      obtain ⟨s0, s1, s2, s3, s4, s5, sz⟩ := blk6 (h2.side i hi).blk
      rw [hpi] at s2
      have HS1 := hid (Hst.out.below hb1)
      have hfi : 268435456 - ((W.sd i).n : Int) < (wt : Int) := by rw [HOK.out.n]; omega
      have HFU := hid hfull
      have s2' : w1.cell? ⟨pi, 2, none⟩ = some (.int .i64 ((W.sd i).n : Int)) := s2
      have hnb : (W.sd i).n ≤ 268435456 := by rw [HOK.out.n]; exact HOK.out.ok.cnt
      clear hb1 h2 s0 s1 s2 s3 s4 s5 sz hfull
      generalize (W.sd i).n = sn at *
      go_wp2_with (first | (go_at_call 72; refine HCL.out.mono ?_; rintro e w' ⟨rfl, hw⟩; obtain rfl := hw.symm))
      go_ret
      refine ⟨rfl, .inl ⟨by have := HFU.out; omega, ?_⟩⟩
      have := HS1.out
      rw [HA0.out] at this
      rw [wd_eta HTP.out]
      exact this

end Go.Proofs.Ytklicjbpjigfdab
