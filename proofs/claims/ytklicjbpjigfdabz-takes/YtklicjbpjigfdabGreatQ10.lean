/- DERIVED. What Seal and Take do to the desk in memory; the walks of Seal and took. -/
import Derived.Test.YtklicjbpjigfdabGreatQ9
import Derived.Test.YtklicjbpjigfdabGreatQ0
namespace Go.Proofs.YtklicjbpjigfdabGreat
open Go.RowKit
attribute [local go_sem ↓] Go.wp_at_zero Go.wp_at_succ
variable {F : Nat → Prop}

theorem hdCells_setTk : ∀ (rs : List Ref) (hs : List Hd) (i : Nat) (v : Value) (t : List (Nat × Nat)), rs.length = hs.length → i < hs.length →
    hdCells (rs.set i { rs.getD i Ref.none with tk := v }) (hs.set i { hs.getD i Hd.none with taken := t }) = (hdCells rs hs).set (i * 6 + 5) v := by
  intro rs
  induction rs with
  | nil => intro hs i v t h hi; simp at h; omega
  | cons a rs ih =>
    intro hs i v t h hi
    cases hs with
    | nil => simp at hi
    | cons y hs =>
      cases i with
      | zero => simp [hdCells, hdCell]
      | succ i =>
        have := ih hs i v t (by simpa using h) (by simpa using hi)
        simp only [List.set_cons_succ, hdCells, List.getD_cons_succ, this]
        simp only [hdCell, List.cons_append, List.nil_append]
        rw [show (i + 1) * 6 + 5 = i * 6 + 5 + 6 by omega]
        rfl
theorem hdCells_seal : ∀ (rs : List Ref) (hs : List Hd) (i : Nat) (b : Bool), rs.length = hs.length → i < hs.length →
    hdCells rs (hs.set i { hs.getD i Hd.none with sealed := b }) = (hdCells rs hs).set (i * 6 + 4) (.bool b) := by
  intro rs
  induction rs with
  | nil => intro hs i b h hi; simp at h; omega
  | cons a rs ih =>
    intro hs i b h hi
    cases hs with
    | nil => simp at hi
    | cons y hs =>
      cases i with
      | zero => simp [hdCells, hdCell]
      | succ i =>
        have := ih hs i b (by simpa using h) (by simpa using hi)
        simp only [List.set_cons_succ, hdCells, List.getD_cons_succ, this]
        simp only [hdCell, List.cons_append, List.nil_append]
        rw [show (i + 1) * 6 + 4 = i * 6 + 4 + 6 by omega]
        rfl

/-- The sketch is sealed: one cell is stored. -/
theorem DeskIn.seal {w : World} {d gk c i : Nat} {D : Dk} {vt : Value} {rs : List Ref} (b : Bool) (h : DeskIn F w d D vt (.slice (some ⟨gk, 0, none⟩) D.sks.length c) rs) (hi : i < D.sks.length) :
    DeskIn F (w.setCell ⟨gk, i * 6 + 4, none⟩ (.bool b)) d { D with sks := D.sks.set i { D.sks.getD i Hd.none with sealed := b } } vt (.slice (some ⟨gk, 0, none⟩) D.sks.length c) rs := by
  obtain ⟨ck, hck⟩ := ownsRow_blk h.row (g := gk) rfl
  have hother : ∀ x, x ≠ gk → (w.setCell ⟨gk, i * 6 + 4, none⟩ (.bool b)).heap[x]? = w.heap[x]? := fun x hx => Below.heap_setCell _ _ _ _ hx
  have hkind : ∀ (b : Nat) (cc : Array Value) (t : TypeId) (fr : Nat × Nat), w.heap[b]? = some (.cells cc t fr) → t ≠ 121 → b ≠ gk := by
    intro b cc t fr hb ht e
    subst e
    rw [hck] at hb; cases hb; exact ht rfl
  have hrow := h.row.stored (i * 6 + 4) (.bool b)
  have hcs := hdCells_seal rs D.sks i b h.len hi
  have hat : ∀ j, ((D.sks.set i { D.sks.getD i Hd.none with sealed := b }).getD j Hd.none).sk = (D.sks.getD j Hd.none).sk ∧ ((D.sks.set i { D.sks.getD i Hd.none with sealed := b }).getD j Hd.none).taken = (D.sks.getD j Hd.none).taken := by
    intro j
    by_cases e : j = i
    · subst e; simp [List.getD, hi]
    · simp [List.getD, Ne.symm e]
  refine ⟨(hother d (hkind _ _ _ _ h.blk (by decide))).trans h.blk, h.fd, ownsRow_block h.tp (fun b e => ?_), h.ftp, ?_, h.frow, by simp [h.len], fun j hj => ?_, fun j hj => ?_, fun b e => by simp only [setCell_size]; exact h.flt b e, fun j hj => ?_, fun j hj b e => ?_, fun a j b ha hj e1 e2 => ?_⟩
  · obtain ⟨cc, hc⟩ := h.tp.kind e
    exact hother b (hkind _ _ _ _ hc (by decide))
  · simp only [List.length_set]
    rw [hcs]
    exact hrow.1
  · simp only [List.length_set] at hj
    rw [(hat j).1]
    refine (h.lv j hj).block (fun b e => hother b ?_)
    rcases e with rfl | ⟨cc, hc⟩
    · obtain ⟨cc, hc⟩ := (h.lv j hj).blk; exact hkind _ _ _ _ hc (by decide)
    · exact hkind _ _ _ _ hc (by decide)
  · simp only [List.length_set] at hj
    exact h.flv j hj
  · simp only [List.length_set] at hj
    rw [(hat j).2]
    refine ownsRow_block (h.tk j hj) (fun b e => hother b ?_)
    obtain ⟨cc, hc⟩ := ownsRow_blk (h.tk j hj) e
    exact hkind _ _ _ _ hc (by decide)
  · simp only [List.length_set] at hj
    exact h.ftk j hj b e
  · simp only [List.length_set] at ha hj
    exact h.dtk a j b ha hj e1 e2

theorem tkCells_snoc : ∀ (l : List (Nat × Nat)) (p : Nat × Nat), tkCells (l ++ [p]) = tkCells l ++ [.int .i64 (p.1 : Int), .int .i64 (p.2 : Int)]
  | [], _ => rfl
  | x :: l, p => by simp [tkCells, tkCells_snoc l p]
theorem tkCells_length : ∀ l : List (Nat × Nat), (tkCells l).length = l.length * 2
  | [] => rfl
  | x :: l => by simp only [tkCells, List.length_cons, tkCells_length l]; omega

/-- A report more: its row has grown, and the sketch holds the new row. -/
theorem DeskIn.report {w wx w2 : World} {d gk c i g2 cap2 m : Nat} {D : Dk} {vt : Value} {rs : List Ref} {p : Nat × Nat} (h : DeskIn F w d D vt (.slice (some ⟨gk, 0, none⟩) D.sks.length c) rs) (hi : i < D.sks.length) (hx : Below w.heap.size w wx)
    (hm : (D.sks.getD i Hd.none).taken.length = m) (hown : w2.ownsRow 0 129 2 (.slice (some ⟨g2, 0, none⟩) (m + 1) cap2) (m + 1) (tkCells (D.sks.getD i Hd.none).taken ++ [.int .i64 (p.1 : Int), .int .i64 (p.2 : Int)]))
    (hgrow : wx.grownBy w2 (rs.getD i Ref.none).tk.ownBlock) (hat : (rs.getD i Ref.none).tk.ownBlock = some g2 ∨ w.heap.size ≤ g2) :
    DeskStep F w (w2.setCell ⟨gk, i * 6 + 5, none⟩ (.slice (some ⟨g2, 0, none⟩) (m + 1) cap2)) d { D with sks := D.sks.set i { D.sks.getD i Hd.none with taken := (D.sks.getD i Hd.none).taken ++ [p] } } := by
  obtain ⟨ck, hck⟩ := ownsRow_blk h.row (g := gk) rfl
  have hsz : w.heap.size ≤ w2.heap.size := Nat.le_trans hx.size hgrow.size
  have hk2 : ∀ b, b < w.heap.size → (rs.getD i Ref.none).tk.ownBlock ≠ some b → w2.heap[b]? = w.heap[b]? := fun b hb hn => by
    rw [hgrow.block b (Nat.lt_of_lt_of_le hb hx.size) (fun e => hn e.symm), hx.block b hb]
  have hk3 : ∀ b, b < w.heap.size → (rs.getD i Ref.none).tk.ownBlock ≠ some b → b ≠ gk → (w2.setCell ⟨gk, i * 6 + 5, none⟩ (.slice (some ⟨g2, 0, none⟩) (m + 1) cap2)).heap[b]? = w.heap[b]? := fun b hb hn hg => by
    rw [Below.heap_setCell _ _ _ _ hg, hk2 b hb hn]
  have hkt : ∀ (b : Nat) (cc : Array Value) (t : TypeId) (fr : Nat × Nat), w.heap[b]? = some (.cells cc t fr) → t ≠ 129 → (rs.getD i Ref.none).tk.ownBlock ≠ some b := by
    intro b cc t fr hb ht e
    obtain ⟨c', hc'⟩ := ownsRow_blk (h.tk i hi) e
    rw [hc'] at hb; cases hb; exact ht rfl
  have hkg : ∀ (b : Nat) (cc : Array Value) (t : TypeId) (fr : Nat × Nat), w.heap[b]? = some (.cells cc t fr) → t ≠ 121 → b ≠ gk := by
    intro b cc t fr hb ht e
    subst e
    rw [hck] at hb; cases hb; exact ht rfl
  have hkeep : ∀ (b : Nat) (cc : Array Value) (t : TypeId) (fr : Nat × Nat), w.heap[b]? = some (.cells cc t fr) → t ≠ 129 → t ≠ 121 → (w2.setCell ⟨gk, i * 6 + 5, none⟩ (.slice (some ⟨g2, 0, none⟩) (m + 1) cap2)).heap[b]? = w.heap[b]? := fun b cc t fr hb h1 h2 => hk3 b (lt_of_blk' hb) (hkt b cc t fr hb h1) (hkg b cc t fr hb h2)
  have hg2 : g2 ≠ gk := by
    intro e
    obtain ⟨c', hc'⟩ := ownsRow_blk hown (g := g2) rfl
    subst e
    rcases hat with e | e
    · exact hkt _ _ _ _ hck (by decide) e
    · have := lt_of_blk' hck; omega
  have hrow2 : w2.ownsRow 0 121 6 (.slice (some ⟨gk, 0, none⟩) D.sks.length c) D.sks.length (hdCells rs D.sks) := ownsRow_block h.row (fun b e => by
    simp [Value.ownBlock] at e; subst e
    exact hk2 _ (lt_of_blk' hck) (hkt _ _ _ _ hck (by decide)))
  have hrow := hrow2.stored (i * 6 + 5) (.slice (some ⟨g2, 0, none⟩) (m + 1) cap2)
  have hcs := hdCells_setTk rs D.sks i (.slice (some ⟨g2, 0, none⟩) (m + 1) cap2) ((D.sks.getD i Hd.none).taken ++ [p]) h.len hi
  have hl := h.len
  have hatD : ∀ j, j ≠ i → (D.sks.set i { D.sks.getD i Hd.none with taken := (D.sks.getD i Hd.none).taken ++ [p] }).getD j Hd.none = D.sks.getD j Hd.none := fun j e => by simp [List.getD, Ne.symm e]
  have hatI : (D.sks.set i { D.sks.getD i Hd.none with taken := (D.sks.getD i Hd.none).taken ++ [p] }).getD i Hd.none = { D.sks.getD i Hd.none with taken := (D.sks.getD i Hd.none).taken ++ [p] } := by simp [List.getD, hi]
  have hrsD : ∀ j, j ≠ i → (rs.set i { rs.getD i Ref.none with tk := .slice (some ⟨g2, 0, none⟩) (m + 1) cap2 }).getD j Ref.none = rs.getD j Ref.none := fun j e => by simp [List.getD, Ne.symm e]
  have hrsI : (rs.set i { rs.getD i Ref.none with tk := .slice (some ⟨g2, 0, none⟩) (m + 1) cap2 }).getD i Ref.none = { rs.getD i Ref.none with tk := .slice (some ⟨g2, 0, none⟩) (m + 1) cap2 } := by simp [List.getD, hl, hi]
  have hG : ∀ b, F b → (F b ∨ w.heap.size ≤ b) ∧ b < w2.heap.size := fun b hb => ⟨.inl hb, Nat.lt_of_lt_of_le (h.flt b hb) hsz⟩
  have hlv : ∀ j, j < D.sks.length → LvAt (fun b => (F b ∨ w.heap.size ≤ b) ∧ b < w2.heap.size) (w2.setCell ⟨gk, i * 6 + 5, none⟩ (.slice (some ⟨g2, 0, none⟩) (m + 1) cap2)) (rs.getD j Ref.none).g (rs.getD j Ref.none).cap (rs.getD j Ref.none).vs (D.sks.getD j Hd.none).sk.lv := by
    intro j hj
    refine LvAt.mono ((h.lv j hj).block (fun b e => ?_)) (fun b hb _ => hG b hb)
    rcases e with rfl | ⟨cc, hc⟩
    · obtain ⟨cc, hc⟩ := (h.lv j hj).blk; exact hkeep _ _ _ _ hc (by decide) (by decide)
    · exact hkeep _ _ _ _ hc (by decide) (by decide)
  refine ⟨fun b => (F b ∨ w.heap.size ≤ b) ∧ b < w2.heap.size, ⟨vt, .slice (some ⟨gk, 0, none⟩) D.sks.length c, rs.set i { rs.getD i Ref.none with tk := .slice (some ⟨g2, 0, none⟩) (m + 1) cap2 }, ?_⟩, fun b hb => hb.1, ?_⟩
  · refine ⟨(hkeep _ _ _ _ h.blk (by decide) (by decide)).trans h.blk, hG _ h.fd, ownsRow_block h.tp (fun b e => ?_), fun b e => hG _ (h.ftp b e), ?_, fun b e => hG _ (h.frow b e), by simp [h.len], fun j hj => ?_, fun j hj => ?_, fun b e => by simp only [setCell_size]; exact e.2, fun j hj => ?_, fun j hj b e => ?_, fun a j b ha hj e1 e2 => ?_⟩
    · obtain ⟨cc, hc⟩ := h.tp.kind e
      exact hkeep _ _ _ _ hc (by decide) (by decide)
    · simp only [List.length_set]
      rw [hcs]
      exact hrow.1
    · simp only [List.length_set] at hj
      by_cases e : j = i
      · subst e
        rw [hrsI, hatI]
        exact hlv j hj
      · rw [hrsD j e, hatD j e]
        exact hlv j hj
    · simp only [List.length_set] at hj
      by_cases e : j = i
      · subst e
        rw [hrsI]
        exact hG _ (h.flv j hj)
      · rw [hrsD j e]
        exact hG _ (h.flv j hj)
    · simp only [List.length_set] at hj
      by_cases e : j = i
      · subst e
        rw [hrsI, hatI]
        show World.ownsRow _ _ _ _ _ ((D.sks.getD j Hd.none).taken ++ [p]).length (tkCells ((D.sks.getD j Hd.none).taken ++ [p]))
        rw [tkCells_snoc, List.length_append, hm]
        exact ownsRow_block hown (fun b e => by simp [Value.ownBlock] at e; subst e; exact Below.heap_setCell _ _ _ _ hg2)
      · rw [hrsD j e, hatD j e]
        refine ownsRow_block (h.tk j hj) (fun b e' => ?_)
        obtain ⟨cc, hc⟩ := ownsRow_blk (h.tk j hj) e'
        exact hk3 b (lt_of_blk' hc) (fun e2 => e (h.dtk j i b hj hi e' e2)) (hkg _ _ _ _ hc (by decide))
    · simp only [List.length_set] at hj
      by_cases e9 : j = i
      · subst e9
        rw [hrsI] at e
        simp [Value.ownBlock] at e
        subst e
        refine ⟨?_, ownsRow_lt hown rfl⟩
        rcases hat with e | e
        · exact .inl (h.ftk j hj _ e)
        · exact .inr e
      · rw [hrsD j e9] at e
        exact hG _ (h.ftk j hj b e)
    · simp only [List.length_set] at ha hj
      have hside : ∀ j, j ≠ i → j < D.sks.length → (rs.getD j Ref.none).tk.ownBlock ≠ some g2 := by
        intro j e hj e'
        rcases hat with e2 | e2
        · exact e (h.dtk j i g2 hj hi e' e2)
        · have := ownsRow_lt (h.tk j hj) e'; omega
      by_cases ea : a = i
      · by_cases ej : j = i
        · omega
        · subst ea
          rw [hrsI] at e1
          rw [hrsD j ej] at e2
          simp [Value.ownBlock] at e1
          subst e1
          exact absurd e2 (hside j ej hj)
      · rw [hrsD a ea] at e1
        by_cases ej : j = i
        · subst ej
          rw [hrsI] at e2
          simp [Value.ownBlock] at e2
          subst e2
          exact absurd e1 (hside a ea ha)
        · rw [hrsD j ej] at e2
          exact h.dtk a j b ha hj e1 e2
  · refine Fr.set ⟨hgrow.os.trans hx.os, hgrow.tape.trans hx.tape, hgrow.output.trans hx.output, hsz, fun b hb hn => ?_⟩ (fun _ => h.frow gk rfl) _
    exact hk2 b hb (fun e => hn (h.ftk i hi b e))

set_option maxHeartbeats 400000 in
theorem dseal_no (d : Nat) (D : Dk) (s : Int) (w : World) (h : DeskAt F w d D) (hs : hasB s D.sks.length = false) :
    Calls Tryz.prog 33 #[.pointer (some ⟨d, 0, none⟩), .int .i64 s] w fun e w' => e = .returned (.int .i64 4) ∧ w' = w := by
  obtain ⟨vt, vk, rs, h⟩ := h
  obtain ⟨ao, c, rfl, _⟩ := h.vkForm
  obtain ⟨_, _, c2, _⟩ := blk3 h.blk
  have HH := hid (has_any d s _ _ _ _ c2)
  rw [hs] at HH
  clear h
  go_enter Tryz.func33, Tryz.ntmps33
  go_wp2_with (go_at_call 59; refine HH.out.mono ?_; rintro e w' ⟨rfl, rfl⟩)
  go_ret
  exact ⟨rfl, rfl⟩

set_option maxHeartbeats 400000 in
theorem dseal_twice (d i : Nat) (D : Dk) (w : World) (h : DeskAt F w d D) (hi : i < D.sks.length) (hs : (D.sks.getD i Hd.none).sealed = true) :
    Calls Tryz.prog 33 #[.pointer (some ⟨d, 0, none⟩), .int .i64 (i : Int)] w fun e w' => e = .returned (.int .i64 5) ∧ w' = w := by
  obtain ⟨vt, vk, rs, h⟩ := h
  obtain ⟨g, c, rfl, hg, q0, q1, q2, q3, q4⟩ := h.cells5 hi
  obtain ⟨_, _, c2, _⟩ := blk3 h.blk
  have HH := hid (has_any d (i : Int) _ _ _ _ c2)
  rw [hasB_nat hi] at HH
  rw [hs] at q4
  have hs1 : (0 : Int) ≤ (i : Int) := by omega
  have hs2 : (i : Int) < (D.sks.length : Int) := by omega
  clear h q0 q1 q2 q3
  generalize D.sks.length = n at *
  go_enter Tryz.func33, Tryz.ntmps33
  go_wp2_with (go_at_call 59; refine HH.out.mono ?_; rintro e w' ⟨rfl, rfl⟩)
  go_ret
  exact ⟨rfl, rfl⟩

set_option maxHeartbeats 400000 in
theorem dseal_any (d i : Nat) (D : Dk) (w : World) (h : DeskAt F w d D) (hi : i < D.sks.length) (hs : (D.sks.getD i Hd.none).sealed = false) :
    Calls Tryz.prog 33 #[.pointer (some ⟨d, 0, none⟩), .int .i64 (i : Int)] w fun e w' => e = .returned (.int .i64 0) ∧ DeskStep F w w' d { D with sks := D.sks.set i { D.sks.getD i Hd.none with sealed := true } } := by
  obtain ⟨vt, vk, rs, h⟩ := h
  obtain ⟨g, c, rfl, hg, q0, q1, q2, q3, q4⟩ := h.cells5 hi
  obtain ⟨_, _, c2, _⟩ := blk3 h.blk
  have HH := hid (has_any d (i : Int) _ _ _ _ c2)
  rw [hasB_nat hi] at HH
  rw [hs] at q4
  have hfr : ∀ o, w.frozen? ⟨g, o, none⟩ = false := by
    intro o
    obtain ⟨cc, hc⟩ := ownsRow_blk h.row (g := g) rfl
    simp [World.frozen?, hc]
  have HST : Hid (DeskStep F w (w.setCell ⟨g, i * 6 + 4, none⟩ (.bool true)) d { D with sks := D.sks.set i { D.sks.getD i Hd.none with sealed := true } }) := ⟨F, ⟨_, _, _, h.seal true hi⟩, fun b hb => .inl hb, (Fr.refl _ w).set (fun _ => h.frow g rfl) _⟩
  have hs1 : (0 : Int) ≤ (i : Int) := by omega
  have hs2 : (i : Int) < (D.sks.length : Int) := by omega
  clear h q0 q1 q2 q3 hs
  generalize hDD : ({ D with sks := D.sks.set i { D.sks.getD i Hd.none with sealed := true } } : Dk) = DD at *
  clear hDD
  generalize D.sks.length = n at *
  go_enter Tryz.func33, Tryz.ntmps33
  go_wp2_with (go_at_call 59; refine HH.out.mono ?_; rintro e w' ⟨rfl, rfl⟩)
  go_ret
  exact ⟨rfl, HST.out⟩

end Go.Proofs.YtklicjbpjigfdabGreat

/- DERIVED. The document's own desk in memory, held against the desk that it stands for. -/
namespace Go.Proofs.YtklicjbpjigfdabGreat
open Go.RowKit
set_option linter.unusedVariables false
variable {G : Nat → Prop}

theorem Tryz.infoRef : (Tryz.prog.info? 71).map (fun i => (i.zero, i.size, i.bytes)) = some (some (.agg #[.int .i64 0, .slice none 0 0, .slice none 0 0, .int .i64 0, .int .i64 0, .bool false, .slice none 0 0]), 7, 104) := by kernel_rfl

/-- How a sketch of the document's lies. -/
structure RRef where
  vb : Value
  vt : Value
  vk : Value
  bag : List (Int × Nat)
  lo : Int
  hi : Int
def RRef.none : RRef := ⟨.slice Option.none 0 0, .slice Option.none 0 0, .slice Option.none 0 0, [], 0, 0⟩
/-- The cells of one. -/
def rsCell (r : RRef) (h : Hd) : List Value := [.int .i64 (h.sk.k : Int), r.vb, r.vt, .int .i64 r.lo, .int .i64 r.hi, .bool h.sealed, r.vk]
def rsCells : List RRef → List Hd → List Value
  | r :: rs, h :: hs => rsCell r h ++ rsCells rs hs
  | _, _ => []
theorem rsCell_length (r : RRef) (h : Hd) : (rsCell r h).length = 7 := rfl
theorem rsCells_length : ∀ (rs : List RRef) (hs : List Hd), rs.length = hs.length → (rsCells rs hs).length = hs.length * 7
  | [], [], _ => rfl
  | r :: rs, h :: hs, e => by simp only [rsCells, List.length_append, rsCell_length, List.length_cons, rsCells_length rs hs (by simpa using e)]; omega
theorem rsCells_at : ∀ (rs : List RRef) (hs : List Hd) (i j : Nat), rs.length = hs.length → i < hs.length → j < 7 → (rsCells rs hs)[i * 7 + j]? = (rsCell (rs.getD i RRef.none) (hs.getD i Hd.none))[j]?
  | [], [], i, j, _, hi, _ => by simp at hi
  | r :: rs, h :: hs, 0, j, _, _, hj => by
    simp only [rsCells, Nat.zero_mul, Nat.zero_add]
    rw [List.getElem?_append_left (by rw [rsCell_length]; exact hj)]
    rfl
  | r :: rs, h :: hs, i + 1, j, e, hi, hj => by
    simp only [rsCells]
    rw [List.getElem?_append_right (by rw [rsCell_length]; omega), rsCell_length, show (i + 1) * 7 + j - 7 = i * 7 + j by omega, rsCells_at rs hs i j (by simpa using e) (by simpa using hi) hj]
    rfl
theorem rsCells_push : ∀ (rs : List RRef) (hs : List Hd) (r : RRef) (x : Hd), rs.length = hs.length → rsCells (rs ++ [r]) (hs ++ [x]) = rsCells rs hs ++ rsCell r x
  | [], [], r, x, _ => by simp [rsCells]
  | a :: rs, y :: hs, r, x, e => by simp [rsCells, rsCells_push rs hs r x (by simpa using e)]
theorem set_past {α : Type} (a b : List α) (n j : Nat) (u : α) (h : a.length = n) : (a ++ b).set (j + n) u = a ++ b.set j u := by
  subst h
  rw [List.set_append_right _ _ (by omega), Nat.add_sub_cancel]
theorem rsCells_set : ∀ (rs : List RRef) (hs : List Hd) (i : Nat) (r : RRef) (x : Hd), rs.length = hs.length → i < hs.length →
    rsCells (rs.set i r) (hs.set i x) = (((((((rsCells rs hs).set (i * 7) (.int .i64 (x.sk.k : Int))).set (i * 7 + 1) r.vb).set (i * 7 + 2) r.vt).set (i * 7 + 3) (.int .i64 r.lo)).set (i * 7 + 4) (.int .i64 r.hi)).set (i * 7 + 5) (.bool x.sealed)).set (i * 7 + 6) r.vk
  | [], [], i, r, x, _, hi => by simp at hi
  | a :: rs, y :: hs, 0, r, x, _, _ => by simp [rsCells, rsCell]
  | a :: rs, y :: hs, i + 1, r, x, e, hi => by
    have := rsCells_set rs hs i r x (by simpa using e) (by simpa using hi)
    simp only [List.set_cons_succ, rsCells, this]
    rw [show (i + 1) * 7 = i * 7 + 7 by omega, show i * 7 + 7 + 1 = i * 7 + 1 + 7 by omega, show i * 7 + 7 + 2 = i * 7 + 2 + 7 by omega, show i * 7 + 7 + 3 = i * 7 + 3 + 7 by omega, show i * 7 + 7 + 4 = i * 7 + 4 + 7 by omega, show i * 7 + 7 + 5 = i * 7 + 5 + 7 by omega, show i * 7 + 7 + 6 = i * 7 + 6 + 7 by omega]
    rw [set_past _ _ 7 _ _ (rsCell_length a y), set_past _ _ 7 _ _ (rsCell_length a y), set_past _ _ 7 _ _ (rsCell_length a y), set_past _ _ 7 _ _ (rsCell_length a y), set_past _ _ 7 _ _ (rsCell_length a y), set_past _ _ 7 _ _ (rsCell_length a y), set_past _ _ 7 _ _ (rsCell_length a y)]
theorem rsCells_seal : ∀ (rs : List RRef) (hs : List Hd) (i : Nat) (b : Bool), rs.length = hs.length → i < hs.length → rsCells rs (hs.set i { hs.getD i Hd.none with sealed := b }) = (rsCells rs hs).set (i * 7 + 5) (.bool b)
  | [], [], i, b, _, hi => by simp at hi
  | a :: rs, y :: hs, 0, b, _, _ => by simp [rsCells, rsCell]
  | a :: rs, y :: hs, i + 1, b, e, hi => by
    have := rsCells_seal rs hs i b (by simpa using e) (by simpa using hi)
    rw [show (i + 1) * 7 + 5 = i * 7 + 5 + 7 by omega]
    simp only [List.set_cons_succ, rsCells, List.getD_cons_succ, this, set_past _ _ 7 _ _ (rsCell_length a y)]
theorem rsCells_tk : ∀ (rs : List RRef) (hs : List Hd) (i : Nat) (v : Value) (l : List (Nat × Nat)), rs.length = hs.length → i < hs.length → rsCells (rs.set i { rs.getD i RRef.none with vk := v }) (hs.set i { hs.getD i Hd.none with taken := l }) = (rsCells rs hs).set (i * 7 + 6) v
  | [], [], i, v, l, _, hi => by simp at hi
  | a :: rs, y :: hs, 0, v, l, _, _ => by simp [rsCells, rsCell]
  | a :: rs, y :: hs, i + 1, v, l, e, hi => by
    have := rsCells_tk rs hs i v l (by simpa using e) (by simpa using hi)
    rw [show (i + 1) * 7 + 6 = i * 7 + 6 + 7 by omega]
    simp only [List.set_cons_succ, rsCells, List.getD_cons_succ, this, set_past _ _ 7 _ _ (rsCell_length a y)]

/-- One sketch stands for another. -/
structure RsOk (w : World) (r : RRef) (h : Hd) : Prop where
  bag : BagAt w r.vb r.bag
  bof : BagOf r.bag h.sk.lv
  tms : Ints w r.vt (nats (timesN h.sk.lv))
  tk : w.ownsRow 0 134 2 r.vk h.taken.length (tkCells h.taken)
  ends : r.bag ≠ [] → r.lo = h.sk.lo ∧ r.hi = h.sk.hi
def RRef.owns (r : RRef) (b : Nat) : Prop := r.vb.ownBlock = some b ∨ r.vt.ownBlock = some b ∨ r.vk.ownBlock = some b
theorem RsOk.block {w w' : World} {r : RRef} {h : Hd} (k : RsOk w r h) (hb : ∀ b, r.owns b → w'.heap[b]? = w.heap[b]?) : RsOk w' r h :=
  ⟨ownsRow_block k.bag (fun g e => hb g (.inl e)), k.bof, ownsRow_block k.tms (fun g e => hb g (.inr (.inl e))), ownsRow_block k.tk (fun g e => hb g (.inr (.inr e))), k.ends⟩
theorem RsOk.lt {w : World} {r : RRef} {h : Hd} (k : RsOk w r h) {b : Nat} (hb : r.owns b) : b < w.heap.size := by
  rcases hb with e | e | e
  · exact ownsRow_lt k.bag e
  · exact ownsRow_lt k.tms e
  · exact ownsRow_lt k.tk e
theorem RsOk.below {w w' : World} {r : RRef} {h : Hd} (k : RsOk w r h) (hb : Below w.heap.size w w') : RsOk w' r h := k.block (fun b e => hb.block b (k.lt e))
theorem RsOk.kind {w : World} {r : RRef} {h : Hd} (k : RsOk w r h) {b : Nat} (hb : r.owns b) : ∃ c t, w.heap[b]? = some (.cells c t (0, 0)) ∧ t ≠ 71 ∧ t ≠ 58 := by
  rcases hb with e | e | e
  · obtain ⟨c, hc⟩ := ownsRow_blk k.bag e; exact ⟨c, _, hc, by decide, by decide⟩
  · obtain ⟨c, hc⟩ := ownsRow_blk k.tms e; exact ⟨c, _, hc, by decide, by decide⟩
  · obtain ⟨c, hc⟩ := ownsRow_blk k.tk e; exact ⟨c, _, hc, by decide, by decide⟩
theorem RsOk.sealed {w : World} {r : RRef} {h : Hd} (k : RsOk w r h) (b : Bool) : RsOk w r { h with sealed := b } := ⟨k.bag, k.bof, k.tms, k.tk, k.ends⟩

/-- The document's desk in block d stands for D, all of it in blocks of G. -/
structure RIn (G : Nat → Prop) (w : World) (d : Nat) (D : Dk) (s : ByteArray) (va : Value) (rs : List RRef) : Prop where
  blk : w.heap[d]? = some (rdBlk (D.room : Int) s va)
  fd : G d
  coins : areCoins s.data.toList = true
  tape : coinsOf s.data.toList = D.tape
  row : w.ownsRow 0 71 7 va D.sks.length (rsCells rs D.sks)
  frow : ∀ b, va.ownBlock = some b → G b
  len : rs.length = D.sks.length
  sk : ∀ i, i < D.sks.length → RsOk w (rs.getD i RRef.none) (D.sks.getD i Hd.none)
  fsk : ∀ i, i < D.sks.length → ∀ b, (rs.getD i RRef.none).owns b → G b
  flt : ∀ b, G b → b < w.heap.size
def RAt (G : Nat → Prop) (w : World) (d : Nat) (D : Dk) : Prop := ∃ s va rs, RIn G w d D s va rs
/-- What a call does to it. -/
def RStep (G : Nat → Prop) (w w' : World) (d : Nat) (D' : Dk) : Prop := ∃ G', RAt G' w' d D' ∧ (∀ b, G' b → G b ∨ w.heap.size ≤ b) ∧ Fr G w w'

theorem RIn.keep {w w' : World} {d : Nat} {D : Dk} {s : ByteArray} {va : Value} {rs : List RRef} (h : RIn G w d D s va rs) (hs : w.heap.size ≤ w'.heap.size) (hb : ∀ b, G b → w'.heap[b]? = w.heap[b]?) : RIn G w' d D s va rs :=
  ⟨(hb d h.fd).trans h.blk, h.fd, h.coins, h.tape, ownsRow_block h.row (fun b e => hb b (h.frow b e)), h.frow, h.len, fun i hi => (h.sk i hi).block (fun b e => hb b (h.fsk i hi b e)), h.fsk, fun b e => Nat.lt_of_lt_of_le (h.flt b e) hs⟩
theorem RAt.keep {w w' : World} {d : Nat} {D : Dk} (h : RAt G w d D) (hs : w.heap.size ≤ w'.heap.size) (hb : ∀ b, G b → w'.heap[b]? = w.heap[b]?) : RAt G w' d D := by
  obtain ⟨s, va, rs, h⟩ := h
  exact ⟨s, va, rs, h.keep hs hb⟩
theorem RIn.below {w w' : World} {d : Nat} {D : Dk} {s : ByteArray} {va : Value} {rs : List RRef} (h : RIn G w d D s va rs) (hb : Below w.heap.size w w') : RIn G w' d D s va rs := h.keep hb.size (fun b e => hb.block b (h.flt b e))
theorem RAt.below {w w' : World} {d : Nat} {D : Dk} (h : RAt G w d D) (hb : Below w.heap.size w w') : RAt G w' d D := by
  obtain ⟨s, va, rs, h⟩ := h
  exact ⟨s, va, rs, h.below hb⟩
theorem RStep.of_below {w w' : World} {d : Nat} {D : Dk} (h : RAt G w d D) (hb : Below w.heap.size w w') : RStep G w w' d D := ⟨G, h.below hb, fun _ h => .inl h, Fr.below hb⟩

/-- Where the row of sketches lies. -/
theorem RIn.form {w : World} {d : Nat} {D : Dk} {s : ByteArray} {va : Value} {rs : List RRef} (h : RIn G w d D s va rs) : ∃ ao c, va = .slice ao D.sks.length c ∧ (∀ i, i < D.sks.length → ∃ g, ao = some ⟨g, 0, none⟩ ∧ g < w.heap.size ∧ ∀ j, j < 7 → ∀ u, (rsCell (rs.getD i RRef.none) (D.sks.getD i Hd.none))[j]? = some u → w.cell? ⟨g, i * 7 + j, none⟩ = some u) := by
  have h' := h.row
  rcases h.row.2 with ⟨e, hn⟩ | ⟨g, cap, cur, e, hg, hh, hnc, hcm, hcs, ht⟩
  · refine ⟨none, 0, by rw [e, hn], fun i hi => by omega⟩
  · refine ⟨some ⟨g, 0, none⟩, cap, e, fun i hi => ⟨g, rfl, ?_, fun j hj u hu => ?_⟩⟩
    · exact ownsRow_lt h' (by rw [e]; rfl)
    · rw [e] at h'
      exact ownsRow_cell h' (by rw [rsCells_at rs D.sks i j h.len hi hj]; exact hu)
theorem RIn.cells7 {w : World} {d : Nat} {D : Dk} {s : ByteArray} {va : Value} {rs : List RRef} (h : RIn G w d D s va rs) {i : Nat} (hi : i < D.sks.length) : ∃ g c, va = .slice (some ⟨g, 0, none⟩) D.sks.length c ∧ g < w.heap.size ∧ w.cell? ⟨g, i * 7, none⟩ = some (.int .i64 ((D.sks.getD i Hd.none).sk.k : Int)) ∧ w.cell? ⟨g, i * 7 + 1, none⟩ = some (rs.getD i RRef.none).vb ∧ w.cell? ⟨g, i * 7 + 2, none⟩ = some (rs.getD i RRef.none).vt ∧ w.cell? ⟨g, i * 7 + 3, none⟩ = some (.int .i64 (rs.getD i RRef.none).lo) ∧ w.cell? ⟨g, i * 7 + 4, none⟩ = some (.int .i64 (rs.getD i RRef.none).hi) ∧ w.cell? ⟨g, i * 7 + 5, none⟩ = some (.bool (D.sks.getD i Hd.none).sealed) ∧ w.cell? ⟨g, i * 7 + 6, none⟩ = some (rs.getD i RRef.none).vk ∧ ∀ j, w.frozen? ⟨g, j, none⟩ = false := by
  obtain ⟨ao, c, rfl, hf⟩ := h.form
  obtain ⟨g, rfl, hg, hc⟩ := hf i hi
  obtain ⟨cc, hcc⟩ := ownsRow_blk h.row (g := g) rfl
  exact ⟨g, c, rfl, hg, hc 0 (by omega) _ rfl, hc 1 (by omega) _ rfl, hc 2 (by omega) _ rfl, hc 3 (by omega) _ rfl, hc 4 (by omega) _ rfl, hc 5 (by omega) _ rfl, hc 6 (by omega) _ rfl, fun j => by simp [World.frozen?, hcc]⟩

/-- The desk has turned: its own cells, its row, some of its sketches. -/
theorem RIn.move {w w' : World} {d : Nat} {D : Dk} {s s' : ByteArray} {va va' : Value} {rs rs' : List RRef} {sks' : List Hd} {t' : List Bool} (h : RIn G w d D s va rs) (hblk : w'.heap[d]? = some (rdBlk (D.room : Int) s' va'))
    (hc : areCoins s'.data.toList = true) (ht : coinsOf s'.data.toList = t') (hrow : w'.ownsRow 0 71 7 va' sks'.length (rsCells rs' sks')) (hfr : ∀ b, va'.ownBlock = some b → G b ∨ w.heap.size ≤ b) (hl : rs'.length = sks'.length)
    (hsk : ∀ i, i < sks'.length → RsOk w' (rs'.getD i RRef.none) (sks'.getD i Hd.none)) (hfs : ∀ i, i < sks'.length → ∀ b, (rs'.getD i RRef.none).owns b → G b ∨ w.heap.size ≤ b) (hf : Fr G w w') :
    RStep G w w' d { D with tape := t', sks := sks' } :=
  ⟨foot G w w', ⟨s', va', rs', hblk, ⟨.inl h.fd, Nat.lt_of_lt_of_le (h.flt d h.fd) hf.size⟩, hc, ht, hrow, fun b e => ⟨hfr b e, ownsRow_lt hrow e⟩, hl, hsk, fun i hi b e => ⟨hfs i hi b e, (hsk i hi).lt e⟩, fun b e => e.2⟩, fun b e => e.1, hf⟩
/-- What is no desk's cell and no row's lies as it did. -/
theorem RIn.still {w w' : World} {d : Nat} {D : Dk} {s : ByteArray} {va : Value} {rs : List RRef} (h : RIn G w d D s va rs) (hk : ∀ b, b < w.heap.size → b ≠ d → va.ownBlock ≠ some b → w'.heap[b]? = w.heap[b]?) {r : RRef} {x : Hd} (k : RsOk w r x) : RsOk w' r x := by
  refine k.block (fun b e => ?_)
  obtain ⟨c, t, hc, h1, h2⟩ := k.kind e
  refine hk b (k.lt e) ?_ ?_
  · rintro rfl
    rw [h.blk] at hc; cases hc; exact h2 rfl
  · intro e'
    obtain ⟨c', hc'⟩ := ownsRow_blk h.row e'
    rw [hc'] at hc; cases hc; exact h1 rfl
theorem getD_set_r {l : List RRef} {i j : Nat} {x : RRef} (hi : i < l.length) : (l.set i x).getD j RRef.none = if j = i then x else l.getD j RRef.none := by
  by_cases e : j = i
  · subst e; simp [List.getD, hi]
  · simp [List.getD, Ne.symm e, e]
theorem getD_set_h {l : List Hd} {i j : Nat} {x : Hd} (hi : i < l.length) : (l.set i x).getD j Hd.none = if j = i then x else l.getD j Hd.none := by
  by_cases e : j = i
  · subst e; simp [List.getD, hi]
  · simp [List.getD, Ne.symm e, e]

end Go.Proofs.YtklicjbpjigfdabGreat

/- DERIVED. Plain mathematics of texts: what is written of a sketch, what a text says, and that the text of a sketch says the sketch. -/
namespace Go.Proofs.YtklicjbpjigfdabGreat

/-- A number's bytes, the lowest first. -/
def leB : Nat → Nat → List Nat
  | 0, _ => []
  | b + 1, n => n % 256 :: leB b (n / 256)
/-- The number of such bytes. -/
def leV : List Nat → Nat
  | [] => 0
  | b :: bs => b + 256 * leV bs
theorem leB_length : ∀ b n, (leB b n).length = b
  | 0, _ => rfl
  | b + 1, n => by simp [leB, leB_length b]
theorem leB_lt : ∀ b n, ∀ x ∈ leB b n, x < 256
  | 0, _, x, h => by simp [leB] at h
  | b + 1, n, x, h => by
    simp only [leB, List.mem_cons] at h
    rcases h with rfl | h
    · exact Nat.mod_lt _ (by decide)
    · exact leB_lt b _ x h
theorem leV_leB : ∀ b n, n < 256 ^ b → leV (leB b n) = n
  | 0, n, h => by simp at h; subst h; rfl
  | b + 1, n, h => by
    have : n / 256 < 256 ^ b := by
      rw [Nat.pow_succ] at h
      exact Nat.div_lt_of_lt_mul (by rw [Nat.mul_comm]; exact h)
    rw [leB, leV, leV_leB b _ this]; omega
theorem leV_lt : ∀ l : List Nat, (∀ x ∈ l, x < 256) → leV l < 256 ^ l.length
  | [], _ => by simp [leV]
  | b :: bs, h => by
    have h1 := leV_lt bs (fun x hx => h x (by simp [hx]))
    have h2 := h b (by simp)
    rw [leV, List.length_cons, Nat.pow_succ]; omega

/-- A number of 64 bits as one without a sign, and back. -/
def u64 (x : Int) : Nat := (x % 18446744073709551616).toNat
def s64 (n : Nat) : Int := if n < 9223372036854775808 then (n : Int) else (n : Int) - 18446744073709551616
theorem u64_lt (x : Int) : u64 x < 256 ^ 8 := by unfold u64; omega
theorem s64_u64 {x : Int} (h1 : -9223372036854775808 ≤ x) (h2 : x ≤ 9223372036854775807) : s64 (u64 x) = x := by
  unfold s64 u64; split <;> omega
theorem s64_bd {n : Nat} (h : n < 256 ^ 8) : -9223372036854775808 ≤ s64 n ∧ s64 n ≤ 9223372036854775807 := by
  unfold s64; split <;> omega

/-- What is written of the levels' sizes and times. -/
def hdrB : List Lvl → List Nat
  | [] => []
  | l :: L => leB 1 l.items.length ++ (leB 4 l.times ++ hdrB L)
def numsB : List Int → List Nat
  | [] => []
  | x :: xs => leB 8 (u64 x) ++ numsB xs
def itemsB : List Lvl → List Nat
  | [] => []
  | l :: L => numsB l.items ++ itemsB L
def endsB (s : Sk) : List Nat := if wsum s.lv = 0 then [] else leB 8 (u64 s.lo) ++ leB 8 (u64 s.hi)
/-- All but the check. -/
def bodyB (s : Sk) : List Nat := [83, 75] ++ (leB 1 s.k ++ (leB 1 s.lv.length ++ (hdrB s.lv ++ (endsB s ++ itemsB s.lv))))
/-- The check. -/
def ckA : List Nat → Nat → Nat
  | [], a => a
  | b :: bs, a => ckA bs ((a + b) % 256)
def ckB : List Nat → Nat → Nat → Nat
  | [], _, c => c
  | b :: bs, a, c => ckB bs ((a + b) % 256) ((c + (a + b) % 256) % 256)
/-- A sketch's text. -/
def writeB (s : Sk) : List Nat := bodyB s ++ (leB 1 (ckA (bodyB s) 0) ++ leB 1 (ckB (bodyB s) 0 0))

/-- What a text says of the levels: how many items, how many times. -/
def toldHd : Nat → List Nat → List (Nat × Nat)
  | 0, _ => []
  | n + 1, r => (leV (r.take 1), leV ((r.drop 1).take 4)) :: toldHd n ((r.drop 1).drop 4)
def toldNums : Nat → List Nat → List Int
  | 0, _ => []
  | n + 1, r => s64 (leV (r.take 8)) :: toldNums n (r.drop 8)
def toldLv : List (Nat × Nat) → List Nat → List Lvl
  | [], _ => []
  | (n, t) :: hs, r => { items := toldNums n r, times := t } :: toldLv hs (r.drop (8 * n))
def hsum : List (Nat × Nat) → Nat
  | [] => 0
  | (n, _) :: hs => n + hsum hs
/-- What a text says. -/
def toldR (k : Nat) (hs : List (Nat × Nat)) (r : List Nat) : Sk :=
  if hsum hs = 0 then { k := k, lv := toldLv hs r, lo := 0, hi := 0 }
  else { k := k, lv := toldLv hs ((r.drop 8).drop 8), lo := s64 (leV (r.take 8)), hi := s64 (leV ((r.drop 8).take 8)) }
def toldS (text : List Nat) : Sk :=
  let r := text.drop 2
  let n := leV ((r.drop 1).take 1)
  toldR (leV (r.take 1)) (toldHd n ((r.drop 1).drop 1)) (((r.drop 1).drop 1).drop (5 * n))

theorem toldHd_length : ∀ n r, (toldHd n r).length = n
  | 0, _ => rfl
  | n + 1, r => by simp [toldHd, toldHd_length n]
theorem toldNums_length : ∀ n r, (toldNums n r).length = n
  | 0, _ => rfl
  | n + 1, r => by simp [toldNums, toldNums_length n]
theorem toldLv_length : ∀ hs r, (toldLv hs r).length = hs.length
  | [], _ => rfl
  | (n, t) :: hs, r => by simp [toldLv, toldLv_length hs]

/-! The text of a sketch says the sketch. -/

theorem le_take (b n : Nat) (r : List Nat) : (leB b n ++ r).take b = leB b n := by
  rw [List.take_append_of_le_length (by rw [leB_length]; exact Nat.le_refl _), List.take_of_length_le (by rw [leB_length]; exact Nat.le_refl _)]
theorem le_drop (b n : Nat) (r : List Nat) : (leB b n ++ r).drop b = r := by
  rw [List.drop_append_of_le_length (by rw [leB_length]; exact Nat.le_refl _), List.drop_eq_nil_of_le (by rw [leB_length]; exact Nat.le_refl _), List.nil_append]
theorem hdrB_length : ∀ L : List Lvl, (hdrB L).length = 5 * L.length
  | [] => rfl
  | l :: L => by simp [hdrB, leB_length, hdrB_length L]; omega
theorem numsB_length : ∀ xs : List Int, (numsB xs).length = 8 * xs.length
  | [] => rfl
  | x :: xs => by simp [numsB, leB_length, numsB_length xs]; omega
theorem itemsB_length : ∀ L : List Lvl, (itemsB L).length = 8 * nsum L
  | [] => rfl
  | l :: L => by simp [itemsB, numsB_length, itemsB_length L, nsum]; omega

/-- What a level needs, so that its text says it. -/
def LvFits (l : Lvl) : Prop := l.items.length < 256 ∧ l.times < 4294967296 ∧ ∀ x ∈ l.items, -9223372036854775808 ≤ x ∧ x ≤ 9223372036854775807
theorem toldHd_hdrB : ∀ (L : List Lvl) (r : List Nat), (∀ l ∈ L, LvFits l) → toldHd L.length (hdrB L ++ r) = L.map fun l => (l.items.length, l.times)
  | [], _, _ => rfl
  | l :: L, r, h => by
    have hl := h l (by simp)
    rw [hdrB, List.length_cons, toldHd, List.append_assoc, List.append_assoc, le_take, le_drop, le_take, le_drop, leV_leB _ _ hl.1, leV_leB _ _ hl.2.1, toldHd_hdrB L r (fun x hx => h x (by simp [hx]))]
    rfl
theorem toldNums_numsB : ∀ (xs : List Int) (r : List Nat), (∀ x ∈ xs, -9223372036854775808 ≤ x ∧ x ≤ 9223372036854775807) → toldNums xs.length (numsB xs ++ r) = xs
  | [], _, _ => rfl
  | x :: xs, r, h => by
    have hx := h x (by simp)
    rw [numsB, List.length_cons, toldNums, List.append_assoc, le_take, le_drop, leV_leB _ _ (u64_lt x), s64_u64 hx.1 hx.2, toldNums_numsB xs r (fun y hy => h y (by simp [hy]))]
theorem numsB_drop (xs : List Int) (r : List Nat) : (numsB xs ++ r).drop (8 * xs.length) = r := by
  rw [← numsB_length, List.drop_append_of_le_length (Nat.le_refl _), List.drop_eq_nil_of_le (Nat.le_refl _), List.nil_append]
theorem toldLv_itemsB : ∀ (L : List Lvl) (r : List Nat), (∀ l ∈ L, LvFits l) → toldLv (L.map fun l => (l.items.length, l.times)) (itemsB L ++ r) = L
  | [], _, _ => rfl
  | l :: L, r, h => by
    have hl := h l (by simp)
    rw [itemsB, List.map_cons, toldLv, List.append_assoc, toldNums_numsB _ _ hl.2.2, numsB_drop, toldLv_itemsB L r (fun x hx => h x (by simp [hx]))]
theorem hsum_map : ∀ L : List Lvl, hsum (L.map fun l => (l.items.length, l.times)) = nsum L
  | [] => rfl
  | l :: L => by simp [hsum, nsum, hsum_map L]
theorem wsum_zero : ∀ L : List Lvl, wsum L = 0 ↔ nsum L = 0
  | [] => by simp [wsum, nsum]
  | l :: L => by have := wsum_zero L; simp only [wsum, nsum]; omega

/-- What a sketch needs, so that its text says it. -/
structure SkFits (s : Sk) : Prop where
  k : s.k < 256
  n : s.lv.length < 256
  lv : ∀ l ∈ s.lv, LvFits l
  lo : -9223372036854775808 ≤ s.lo ∧ s.lo ≤ 9223372036854775807
  hi : -9223372036854775808 ≤ s.hi ∧ s.hi ≤ 9223372036854775807
  none : wsum s.lv = 0 → s.lo = 0 ∧ s.hi = 0

theorem told_body {s : Sk} (h : SkFits s) (r : List Nat) : toldS (bodyB s ++ r) = s := by
  have e0 : (bodyB s ++ r).drop 2 = leB 1 s.k ++ (leB 1 s.lv.length ++ (hdrB s.lv ++ (endsB s ++ (itemsB s.lv ++ r)))) := by simp [bodyB, List.append_assoc]
  have hl := h.n
  unfold toldS
  simp only []
  rw [e0, le_take, le_drop, le_take, le_drop, leV_leB _ _ h.k, leV_leB _ _ h.n, toldHd_hdrB _ _ h.lv, ← hdrB_length, List.drop_append_of_le_length (Nat.le_refl _), List.drop_eq_nil_of_le (Nat.le_refl _), List.nil_append]
  unfold toldR endsB
  rw [hsum_map]
  by_cases hw : wsum s.lv = 0
  · rw [if_pos ((wsum_zero _).1 hw), if_pos hw, List.nil_append, toldLv_itemsB _ _ h.lv]
    obtain ⟨a, b⟩ := h.none hw
    cases s; simp_all
  · rw [if_neg (fun e => hw ((wsum_zero _).2 e)), if_neg hw, List.append_assoc, le_take, le_drop, le_take, le_drop, leV_leB _ _ (u64_lt _), leV_leB _ _ (u64_lt _), toldLv_itemsB _ _ h.lv, s64_u64 h.lo.1 h.lo.2, s64_u64 h.hi.1 h.hi.2]
theorem told_write {s : Sk} (h : SkFits s) : toldS (writeB s) = s := told_body h _

/-! What a text says fits, if it is of bytes. -/

theorem mem_take {α : Type} {l : List α} {x : α} {n : Nat} (h : x ∈ l.take n) : x ∈ l := List.mem_of_mem_take h
theorem leV_take {l : List Nat} (h : ∀ x ∈ l, x < 256) (n : Nat) : leV (l.take n) < 256 ^ n := by
  refine Nat.lt_of_lt_of_le (leV_lt _ (fun x hx => h x (mem_take hx))) (Nat.pow_le_pow_right (by decide) ?_)
  rw [List.length_take]; omega
theorem of_drop {l : List Nat} (h : ∀ x ∈ l, x < 256) (n : Nat) : ∀ x ∈ l.drop n, x < 256 := fun x hx => h x (List.mem_of_mem_drop hx)
theorem toldNums_bd : ∀ (n : Nat) (r : List Nat), (∀ x ∈ r, x < 256) → ∀ x ∈ toldNums n r, -9223372036854775808 ≤ x ∧ x ≤ 9223372036854775807
  | 0, _, _, x, hx => by simp [toldNums] at hx
  | n + 1, r, h, x, hx => by
    simp only [toldNums, List.mem_cons] at hx
    rcases hx with rfl | hx
    · exact s64_bd (leV_take h 8)
    · exact toldNums_bd n _ (of_drop h 8) x hx
theorem toldHd_bd : ∀ (n : Nat) (r : List Nat), (∀ x ∈ r, x < 256) → ∀ p ∈ toldHd n r, p.1 < 256 ∧ p.2 < 4294967296
  | 0, _, _, p, hp => by simp [toldHd] at hp
  | n + 1, r, h, p, hp => by
    simp only [toldHd, List.mem_cons] at hp
    rcases hp with rfl | hp
    · exact ⟨leV_take h 1, leV_take (of_drop h 1) 4⟩
    · exact toldHd_bd n _ (of_drop (of_drop h 1) 4) p hp
theorem toldLv_fits : ∀ (hs : List (Nat × Nat)) (r : List Nat), (∀ x ∈ r, x < 256) → (∀ p ∈ hs, p.1 < 256 ∧ p.2 < 4294967296) → ∀ l ∈ toldLv hs r, LvFits l
  | [], _, _, _, l, hl => by simp [toldLv] at hl
  | (n, t) :: hs, r, h, hp, l, hl => by
    simp only [toldLv, List.mem_cons] at hl
    have h0 := hp (n, t) (by simp)
    rcases hl with rfl | hl
    · exact ⟨by simp only [toldNums_length]; exact h0.1, h0.2, toldNums_bd n r h⟩
    · exact toldLv_fits hs _ (of_drop h _) (fun p hp' => hp p (by simp [hp'])) l hl
theorem nsum_toldLv : ∀ (hs : List (Nat × Nat)) (r : List Nat), nsum (toldLv hs r) = hsum hs
  | [], _ => rfl
  | (n, t) :: hs, r => by simp [toldLv, nsum, hsum, toldNums_length, nsum_toldLv hs]
theorem toldS_fits {t : List Nat} (h : ∀ x ∈ t, x < 256) : SkFits (toldS t) := by
  have h1 := of_drop h 2
  have h2 := of_drop h1 1
  have h3 := of_drop h2 1
  have hn := leV_take h2 1
  have hh := toldHd_bd (leV (((t.drop 2).drop 1).take 1)) _ h3
  have h4 := of_drop h3 (5 * leV (((t.drop 2).drop 1).take 1))
  unfold toldS
  simp only []
  generalize hN : leV (((t.drop 2).drop 1).take 1) = n at *
  have hlen := toldHd_length n (((t.drop 2).drop 1).drop 1)
  generalize toldHd n (((t.drop 2).drop 1).drop 1) = hs at *
  generalize (((t.drop 2).drop 1).drop 1).drop (5 * n) = r at *
  have hk := leV_take h1 1
  unfold toldR
  split
  next e => exact ⟨hk, by simp only [toldLv_length, hlen]; exact hn, toldLv_fits hs r h4 hh, by simp, by simp, fun _ => ⟨rfl, rfl⟩⟩
  next e =>
    refine ⟨hk, by simp only [toldLv_length, hlen]; exact hn, toldLv_fits hs _ (of_drop (of_drop h4 8) 8) hh, s64_bd (leV_take h4 8), s64_bd (leV_take (of_drop h4 8) 8), fun h0 => absurd ?_ e⟩
    rw [wsum_zero, nsum_toldLv] at h0
    exact h0

end Go.Proofs.YtklicjbpjigfdabGreat

/- DERIVED. Plain mathematics of texts: which are a sketch's; a text with one byte changed, one missing, one more is none. -/
namespace Go.Proofs.YtklicjbpjigfdabGreat

/-- Has enough gone up for each level to have been thinned so often? -/
def timesB (k n : Nat) : Nat → List Lvl → Bool
  | _, [] => true
  | h, l :: L => decide (l.times * 2 ^ h * capOf k (n - 1 - h) ≤ 2 ^ (h + 1) * wsum L) && timesB k n (h + 1) L
def risesB : List Int → Bool
  | [] => true
  | [_] => true
  | x :: y :: r => decide (x ≤ y) && risesB (y :: r)
def lvB (lo hi : Int) (l : Lvl) : Bool := l.items.all (fun x => decide (lo ≤ x) && decide (x ≤ hi)) && risesB l.items
def hasIt (x : Int) (L : List Lvl) : Bool := L.any fun l => l.items.any fun y => y == x
def thinnedB (L : List Lvl) : Bool := L.any fun l => decide (0 < l.times)
def shapeB (s : Sk) : Bool := decide (2 ≤ s.k ∧ s.k ≤ 64 ∧ 1 ≤ s.lv.length ∧ s.lv.length ≤ 29 ∧ (1 < s.lv.length → 0 < (s.lv.getD (s.lv.length - 1) Lvl.none).items.length) ∧ nsum s.lv ≤ capSum s.k s.lv.length ∧ wsum s.lv ≤ 268435456)
def endsOK (s : Sk) : Bool := decide (nsum s.lv = 0) || thinnedB s.lv || (hasIt s.lo s.lv && hasIt s.hi s.lv)
/-- Is it as a sketch must be? -/
def soundB (s : Sk) : Bool := shapeB s && (timesB s.k s.lv.length 0 s.lv && (s.lv.all (lvB s.lo s.hi) && endsOK s))
/-- Is it a sketch's text? -/
def isText (t : List Nat) : Bool := soundB (toldS t) && decide (writeB (toldS t) = t)

theorem ckA_sum : ∀ (b : List Nat) (a : Nat), a < 256 → ckA b a = (a + b.sum) % 256
  | [], a, h => by simp [ckA]; omega
  | x :: b, a, h => by
    rw [ckA, ckA_sum b _ (Nat.mod_lt _ (by decide)), List.sum_cons]
    omega
theorem ckA_lt (b : List Nat) : ckA b 0 < 256 := by rw [ckA_sum _ _ (by decide)]; omega
theorem ckB_lt : ∀ (b : List Nat) (a c : Nat), c < 256 → ckB b a c < 256
  | [], a, c, h => h
  | x :: b, a, c, h => by rw [ckB]; exact ckB_lt b _ _ (Nat.mod_lt _ (by decide))
theorem writeB_eq (s : Sk) : writeB s = bodyB s ++ [ckA (bodyB s) 0, ckB (bodyB s) 0 0] := by
  have h1 := ckA_lt (bodyB s)
  have h2 := ckB_lt (bodyB s) 0 0 (by decide)
  simp [writeB, leB, Nat.mod_eq_of_lt h1, Nat.mod_eq_of_lt h2]
theorem hdrB_lt : ∀ (L : List Lvl), ∀ x ∈ hdrB L, x < 256
  | [], x, h => by simp [hdrB] at h
  | l :: L, x, h => by
    simp only [hdrB, List.mem_append] at h
    rcases h with h | h | h
    · exact leB_lt _ _ x h
    · exact leB_lt _ _ x h
    · exact hdrB_lt L x h
theorem numsB_lt : ∀ (l : List Int), ∀ x ∈ numsB l, x < 256
  | [], x, h => by simp [numsB] at h
  | y :: l, x, h => by
    simp only [numsB, List.mem_append] at h
    rcases h with h | h
    · exact leB_lt _ _ x h
    · exact numsB_lt l x h
theorem itemsB_lt : ∀ (L : List Lvl), ∀ x ∈ itemsB L, x < 256
  | [], x, h => by simp [itemsB] at h
  | l :: L, x, h => by
    simp only [itemsB, List.mem_append] at h
    rcases h with h | h
    · exact numsB_lt _ x h
    · exact itemsB_lt L x h
theorem bodyB_lt (s : Sk) : ∀ x ∈ bodyB s, x < 256 := by
  intro x h
  simp only [bodyB, List.mem_append] at h
  rcases h with h | h | h | h | h | h
  · simp at h; omega
  · exact leB_lt _ _ x h
  · exact leB_lt _ _ x h
  · exact hdrB_lt _ x h
  · unfold endsB at h
    split at h
    · simp at h
    · rw [List.mem_append] at h
      rcases h with h | h <;> exact leB_lt _ _ x h
  · exact itemsB_lt _ x h
theorem writeB_lt (s : Sk) : ∀ x ∈ writeB s, x < 256 := by
  intro x h
  simp only [writeB, List.mem_append] at h
  rcases h with h | h | h
  · exact bodyB_lt s x h
  · exact leB_lt _ _ x h
  · exact leB_lt _ _ x h
theorem writeB_length (s : Sk) : (writeB s).length = (bodyB s).length + 2 := by simp [writeB_eq]
theorem bodyB_length (s : Sk) : (bodyB s).length = 4 + 5 * s.lv.length + (if wsum s.lv = 0 then 0 else 16) + 8 * nsum s.lv := by
  simp only [bodyB, List.length_append, leB_length, hdrB_length, itemsB_length, endsB]
  split <;> simp [leB_length] <;> omega

/-- A text of a sketch that begins another's is that one. -/
theorem write_prefix {s s' : Sk} (h : SkFits s) (h' : SkFits s') {r : List Nat} (e : writeB s' ++ r = writeB s) : r = [] := by
  have e1 : toldS (writeB s' ++ r) = s' := by rw [writeB, List.append_assoc]; exact told_body h' _
  rw [e, told_write h] at e1
  subst e1
  have := congrArg List.length e
  rw [List.length_append] at this
  exact List.eq_nil_of_length_eq_zero (by omega)

theorem sum_set : ∀ (b : List Nat) (i y : Nat), i < b.length → (b.set i y).sum + b.getD i 0 = b.sum + y
  | [], i, y, h => by simp at h
  | x :: b, 0, y, h => by simp [List.sum_cons]; omega
  | x :: b, i + 1, y, h => by
    have := sum_set b i y (by simpa using h)
    simp only [List.set_cons_succ, List.sum_cons, List.getD_cons_succ]; omega

/-- A text of a sketch with one byte changed is no sketch's. -/
theorem write_changed {s s' : Sk} {i y : Nat} (hi : i < (writeB s).length) (hy : y < 256) (hne : y ≠ (writeB s).getD i 0) (e : writeB s' = (writeB s).set i y) : False := by
  have hl : (bodyB s').length = (bodyB s).length := by
    have := congrArg List.length e
    rw [List.length_set, writeB_length, writeB_length] at this
    omega
  by_cases hb : i < (bodyB s).length
  · have e2 : (writeB s).set i y = (bodyB s).set i y ++ [ckA (bodyB s) 0, ckB (bodyB s) 0 0] := by
      rw [writeB_eq, List.set_append_left _ _ hb]
    rw [e2, writeB_eq] at e
    obtain ⟨h1, h2⟩ := List.append_inj e (by rw [List.length_set]; exact hl)
    have h3 : ckA (bodyB s') 0 = ckA (bodyB s) 0 := by simpa using (List.cons_eq_cons.1 h2).1
    rw [h1, ckA_sum _ _ (by decide), ckA_sum _ _ (by decide)] at h3
    have h4 := sum_set (bodyB s) i y hb
    have h5 : (bodyB s).getD i 0 < 256 := by
      rw [List.getD_eq_getElem?_getD, List.getElem?_eq_getElem hb]
      exact bodyB_lt s _ (List.getElem_mem hb)
    have h6 : (writeB s).getD i 0 = (bodyB s).getD i 0 := by
      rw [writeB_eq, List.getD_eq_getElem?_getD, List.getD_eq_getElem?_getD, List.getElem?_append_left hb]
    rw [h6] at hne
    omega
  · have e2 : (writeB s).set i y = bodyB s ++ ([ckA (bodyB s) 0, ckB (bodyB s) 0 0].set (i - (bodyB s).length) y) := by
      rw [writeB_eq, List.set_append_right _ _ (by omega)]
    rw [e2, writeB_eq] at e
    obtain ⟨h1, h2⟩ := List.append_inj e hl
    rw [h1] at h2
    have h3 : [ckA (bodyB s) 0, ckB (bodyB s) 0 0].getD (i - (bodyB s).length) 0 = y := by
      rw [h2, List.getD_eq_getElem?_getD, List.getElem?_set_self (by rw [writeB_length] at hi; simp; omega)]; rfl
    apply hne
    rw [writeB_eq, List.getD_eq_getElem?_getD, List.getElem?_append_right (by omega), ← List.getD_eq_getElem?_getD, h3]

/-- The three of them, as texts that are read. -/
theorem isText_fits {t : List Nat} (hb : ∀ x ∈ t, x < 256) (h : isText t = true) : SkFits (toldS t) ∧ writeB (toldS t) = t := by
  simp only [isText, Bool.and_eq_true, decide_eq_true_eq] at h
  exact ⟨toldS_fits hb, h.2⟩
theorem not_changed {s : Sk} {i y : Nat} (hi : i < (writeB s).length) (hy : y < 256) (hne : y ≠ (writeB s).getD i 0) : isText ((writeB s).set i y) = false := by
  cases h : isText ((writeB s).set i y) with
  | false => rfl
  | true =>
    simp only [isText, Bool.and_eq_true, decide_eq_true_eq] at h
    exact (write_changed hi hy hne h.2).elim
theorem not_cut {s : Sk} (h : SkFits s) : isText ((writeB s).take ((writeB s).length - 1)) = false := by
  cases h' : isText ((writeB s).take ((writeB s).length - 1)) with
  | false => rfl
  | true =>
    obtain ⟨h1, h2⟩ := isText_fits (fun x hx => writeB_lt s x (mem_take hx)) h'
    have hl := writeB_length s
    have := write_prefix h h1 (r := (writeB s).drop ((writeB s).length - 1)) (by rw [h2, List.take_append_drop])
    have := congrArg List.length this
    simp at this
    omega
theorem not_more {s : Sk} (h : SkFits s) {y : Nat} (hy : y < 256) : isText (writeB s ++ [y]) = false := by
  cases h' : isText (writeB s ++ [y]) with
  | false => rfl
  | true =>
    obtain ⟨h1, h2⟩ := isText_fits (fun x hx => by
      rw [List.mem_append] at hx
      rcases hx with hx | hx
      · exact writeB_lt s x hx
      · simp at hx; omega) h'
    have e : toldS (writeB s ++ [y]) = s := by rw [writeB, List.append_assoc]; exact told_body h _
    rw [e] at h2
    have := congrArg List.length h2
    simp at this
theorem is_text {s : Sk} (h : SkFits s) (hs : soundB s = true) : isText (writeB s) = true := by
  simp only [isText, told_write h, hs, decide_true, Bool.and_self]

end Go.Proofs.YtklicjbpjigfdabGreat
