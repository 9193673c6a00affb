/- DERIVED. What Seal and Take do to the desk in memory; the walks of Seal and took. -/
import Derived.Test.YtklicjbpjigfdabNe
import Derived.Test.YtklicjbpjigfdabMb
import Derived.Test.YtklicjbpjigfdabDecodeW
namespace Go.Proofs.Ytklicjbpjigfdab
open Go.RowKit
attribute [local go_sem ↓] Go.wp_at_zero Go.wp_at_succ
variable {F : Nat → Prop}

theorem hdCells_setTk : ∀ (rs : List Ref) (hs : List Hd) (i : Nat) (v : Value) (t : List (Nat × Nat)), rs.length = hs.length → i < hs.length →
    hdCells (rs.set i { rs.getD i Ref.none with tk := v }) (hs.set i { hs.getD i Hd.none with taken := t }) = (hdCells rs hs).set (i * 6 + 5) v := by
  intro rs
  induction rs with
  | nil => intro hs i v t h hi; simp at h; omega
  | cons a rs ih =>
    intro hs i v t h hi
    cases hs with
    | nil => simp at hi
    | cons y hs =>
      cases i with
      | zero => simp [hdCells, hdCell]
      | succ i =>
        have := ih hs i v t (by simpa using h) (by simpa using hi)
        simp only [List.set_cons_succ, hdCells, List.getD_cons_succ, this]
        simp only [hdCell, List.cons_append, List.nil_append]
        rw [show (i + 1) * 6 + 5 = i * 6 + 5 + 6 by omega]
        rfl
theorem hdCells_seal : ∀ (rs : List Ref) (hs : List Hd) (i : Nat) (b : Bool), rs.length = hs.length → i < hs.length →
    hdCells rs (hs.set i { hs.getD i Hd.none with sealed := b }) = (hdCells rs hs).set (i * 6 + 4) (.bool b) := by
  intro rs
  induction rs with
  | nil => intro hs i b h hi; simp at h; omega
  | cons a rs ih =>
    intro hs i b h hi
    cases hs with
    | nil => simp at hi
    | cons y hs =>
      cases i with
      | zero => simp [hdCells, hdCell]
      | succ i =>
        have := ih hs i b (by simpa using h) (by simpa using hi)
        simp only [List.set_cons_succ, hdCells, List.getD_cons_succ, this]
        simp only [hdCell, List.cons_append, List.nil_append]
        rw [show (i + 1) * 6 + 4 = i * 6 + 4 + 6 by omega]
        rfl

/-- The sketch is sealed: one cell is stored. -/
theorem DeskIn.seal {w : World} {d gk c i : Nat} {D : Dk} {vt : Value} {rs : List Ref} (b : Bool) (h : DeskIn F w d D vt (.slice (some ⟨gk, 0, none⟩) D.sks.length c) rs) (hi : i < D.sks.length) :
    DeskIn F (w.setCell ⟨gk, i * 6 + 4, none⟩ (.bool b)) d { D with sks := D.sks.set i { D.sks.getD i Hd.none with sealed := b } } vt (.slice (some ⟨gk, 0, none⟩) D.sks.length c) rs := by
  obtain ⟨ck, hck⟩ := ownsRow_blk h.row (g := gk) rfl
  have hother : ∀ x, x ≠ gk → (w.setCell ⟨gk, i * 6 + 4, none⟩ (.bool b)).heap[x]? = w.heap[x]? := fun x hx => Below.heap_setCell _ _ _ _ hx
  have hkind : ∀ (b : Nat) (cc : Array Value) (t : TypeId) (fr : Nat × Nat), w.heap[b]? = some (.cells cc t fr) → t ≠ 80 → b ≠ gk := by
    intro b cc t fr hb ht e
    subst e
    rw [hck] at hb; cases hb; exact ht rfl
  have hrow := h.row.stored (i * 6 + 4) (.bool b)
  have hcs := hdCells_seal rs D.sks i b h.len hi
  have hat : ∀ j, ((D.sks.set i { D.sks.getD i Hd.none with sealed := b }).getD j Hd.none).sk = (D.sks.getD j Hd.none).sk ∧ ((D.sks.set i { D.sks.getD i Hd.none with sealed := b }).getD j Hd.none).taken = (D.sks.getD j Hd.none).taken := by
    intro j
    by_cases e : j = i
    · subst e; simp [List.getD, hi]
    · simp [List.getD, Ne.symm e]
  refine ⟨(hother d (hkind _ _ _ _ h.blk (by decide))).trans h.blk, h.fd, ownsRow_block h.tp (fun b e => ?_), h.ftp, ?_, h.frow, by simp [h.len], fun j hj => ?_, fun j hj => ?_, fun b e => by simp only [setCell_size]; exact h.flt b e, fun j hj => ?_, fun j hj b e => ?_, fun a j b ha hj e1 e2 => ?_⟩
  · obtain ⟨cc, hc⟩ := h.tp.kind e
    exact hother b (hkind _ _ _ _ hc (by decide))
  · simp only [List.length_set]
    rw [hcs]
    exact hrow.1
  · simp only [List.length_set] at hj
    rw [(hat j).1]
    refine (h.lv j hj).block (fun b e => hother b ?_)
    rcases e with rfl | ⟨cc, hc⟩
    · obtain ⟨cc, hc⟩ := (h.lv j hj).blk; exact hkind _ _ _ _ hc (by decide)
    · exact hkind _ _ _ _ hc (by decide)
  · simp only [List.length_set] at hj
    exact h.flv j hj
  · simp only [List.length_set] at hj
    rw [(hat j).2]
    refine ownsRow_block (h.tk j hj) (fun b e => hother b ?_)
    obtain ⟨cc, hc⟩ := ownsRow_blk (h.tk j hj) e
    exact hkind _ _ _ _ hc (by decide)
  · simp only [List.length_set] at hj
    exact h.ftk j hj b e
  · simp only [List.length_set] at ha hj
    exact h.dtk a j b ha hj e1 e2

theorem tkCells_snoc : ∀ (l : List (Nat × Nat)) (p : Nat × Nat), tkCells (l ++ [p]) = tkCells l ++ [.int .i64 (p.1 : Int), .int .i64 (p.2 : Int)]
  | [], _ => rfl
  | x :: l, p => by simp [tkCells, tkCells_snoc l p]
theorem tkCells_length : ∀ l : List (Nat × Nat), (tkCells l).length = l.length * 2
  | [] => rfl
  | x :: l => by simp only [tkCells, List.length_cons, tkCells_length l]; omega

/-- A report more: its row has grown, and the sketch holds the new row. -/
theorem DeskIn.report {w wx w2 : World} {d gk c i g2 cap2 m : Nat} {D : Dk} {vt : Value} {rs : List Ref} {p : Nat × Nat} (h : DeskIn F w d D vt (.slice (some ⟨gk, 0, none⟩) D.sks.length c) rs) (hi : i < D.sks.length) (hx : Below w.heap.size w wx)
    (hm : (D.sks.getD i Hd.none).taken.length = m) (hown : w2.ownsRow 0 153 2 (.slice (some ⟨g2, 0, none⟩) (m + 1) cap2) (m + 1) (tkCells (D.sks.getD i Hd.none).taken ++ [.int .i64 (p.1 : Int), .int .i64 (p.2 : Int)]))
    (hgrow : wx.grownBy w2 (rs.getD i Ref.none).tk.ownBlock) (hat : (rs.getD i Ref.none).tk.ownBlock = some g2 ∨ w.heap.size ≤ g2) :
    DeskStep F w (w2.setCell ⟨gk, i * 6 + 5, none⟩ (.slice (some ⟨g2, 0, none⟩) (m + 1) cap2)) d { D with sks := D.sks.set i { D.sks.getD i Hd.none with taken := (D.sks.getD i Hd.none).taken ++ [p] } } := by
  obtain ⟨ck, hck⟩ := ownsRow_blk h.row (g := gk) rfl
  have hsz : w.heap.size ≤ w2.heap.size := Nat.le_trans hx.size hgrow.size
  have hk2 : ∀ b, b < w.heap.size → (rs.getD i Ref.none).tk.ownBlock ≠ some b → w2.heap[b]? = w.heap[b]? := fun b hb hn => by
    rw [hgrow.block b (Nat.lt_of_lt_of_le hb hx.size) (fun e => hn e.symm), hx.block b hb]
  have hk3 : ∀ b, b < w.heap.size → (rs.getD i Ref.none).tk.ownBlock ≠ some b → b ≠ gk → (w2.setCell ⟨gk, i * 6 + 5, none⟩ (.slice (some ⟨g2, 0, none⟩) (m + 1) cap2)).heap[b]? = w.heap[b]? := fun b hb hn hg => by
    rw [Below.heap_setCell _ _ _ _ hg, hk2 b hb hn]
  have hkt : ∀ (b : Nat) (cc : Array Value) (t : TypeId) (fr : Nat × Nat), w.heap[b]? = some (.cells cc t fr) → t ≠ 153 → (rs.getD i Ref.none).tk.ownBlock ≠ some b := by
    intro b cc t fr hb ht e
    obtain ⟨c', hc'⟩ := ownsRow_blk (h.tk i hi) e
    rw [hc'] at hb; cases hb; exact ht rfl
  have hkg : ∀ (b : Nat) (cc : Array Value) (t : TypeId) (fr : Nat × Nat), w.heap[b]? = some (.cells cc t fr) → t ≠ 80 → b ≠ gk := by
    intro b cc t fr hb ht e
    subst e
    rw [hck] at hb; cases hb; exact ht rfl
  have hkeep : ∀ (b : Nat) (cc : Array Value) (t : TypeId) (fr : Nat × Nat), w.heap[b]? = some (.cells cc t fr) → t ≠ 153 → t ≠ 80 → (w2.setCell ⟨gk, i * 6 + 5, none⟩ (.slice (some ⟨g2, 0, none⟩) (m + 1) cap2)).heap[b]? = w.heap[b]? := fun b cc t fr hb h1 h2 => hk3 b (lt_of_blk' hb) (hkt b cc t fr hb h1) (hkg b cc t fr hb h2)
  have hg2 : g2 ≠ gk := by
    intro e
    obtain ⟨c', hc'⟩ := ownsRow_blk hown (g := g2) rfl
    subst e
    rcases hat with e | e
    · exact hkt _ _ _ _ hck (by decide) e
    · have := lt_of_blk' hck; omega
  have hrow2 : w2.ownsRow 0 80 6 (.slice (some ⟨gk, 0, none⟩) D.sks.length c) D.sks.length (hdCells rs D.sks) := ownsRow_block h.row (fun b e => by
    simp [Value.ownBlock] at e; subst e
    exact hk2 _ (lt_of_blk' hck) (hkt _ _ _ _ hck (by decide)))
  have hrow := hrow2.stored (i * 6 + 5) (.slice (some ⟨g2, 0, none⟩) (m + 1) cap2)
  have hcs := hdCells_setTk rs D.sks i (.slice (some ⟨g2, 0, none⟩) (m + 1) cap2) ((D.sks.getD i Hd.none).taken ++ [p]) h.len hi
  have hl := h.len
  have hatD : ∀ j, j ≠ i → (D.sks.set i { D.sks.getD i Hd.none with taken := (D.sks.getD i Hd.none).taken ++ [p] }).getD j Hd.none = D.sks.getD j Hd.none := fun j e => by simp [List.getD, Ne.symm e]
  have hatI : (D.sks.set i { D.sks.getD i Hd.none with taken := (D.sks.getD i Hd.none).taken ++ [p] }).getD i Hd.none = { D.sks.getD i Hd.none with taken := (D.sks.getD i Hd.none).taken ++ [p] } := by simp [List.getD, hi]
  have hrsD : ∀ j, j ≠ i → (rs.set i { rs.getD i Ref.none with tk := .slice (some ⟨g2, 0, none⟩) (m + 1) cap2 }).getD j Ref.none = rs.getD j Ref.none := fun j e => by simp [List.getD, Ne.symm e]
  have hrsI : (rs.set i { rs.getD i Ref.none with tk := .slice (some ⟨g2, 0, none⟩) (m + 1) cap2 }).getD i Ref.none = { rs.getD i Ref.none with tk := .slice (some ⟨g2, 0, none⟩) (m + 1) cap2 } := by simp [List.getD, hl, hi]
  have hG : ∀ b, F b → (F b ∨ w.heap.size ≤ b) ∧ b < w2.heap.size := fun b hb => ⟨.inl hb, Nat.lt_of_lt_of_le (h.flt b hb) hsz⟩
  have hlv : ∀ j, j < D.sks.length → LvAt (fun b => (F b ∨ w.heap.size ≤ b) ∧ b < w2.heap.size) (w2.setCell ⟨gk, i * 6 + 5, none⟩ (.slice (some ⟨g2, 0, none⟩) (m + 1) cap2)) (rs.getD j Ref.none).g (rs.getD j Ref.none).cap (rs.getD j Ref.none).vs (D.sks.getD j Hd.none).sk.lv := by
    intro j hj
    refine LvAt.mono ((h.lv j hj).block (fun b e => ?_)) (fun b hb _ => hG b hb)
    rcases e with rfl | ⟨cc, hc⟩
    · obtain ⟨cc, hc⟩ := (h.lv j hj).blk; exact hkeep _ _ _ _ hc (by decide) (by decide)
    · exact hkeep _ _ _ _ hc (by decide) (by decide)
  refine ⟨fun b => (F b ∨ w.heap.size ≤ b) ∧ b < w2.heap.size, ⟨vt, .slice (some ⟨gk, 0, none⟩) D.sks.length c, rs.set i { rs.getD i Ref.none with tk := .slice (some ⟨g2, 0, none⟩) (m + 1) cap2 }, ?_⟩, fun b hb => hb.1, ?_⟩
  · refine ⟨(hkeep _ _ _ _ h.blk (by decide) (by decide)).trans h.blk, hG _ h.fd, ownsRow_block h.tp (fun b e => ?_), fun b e => hG _ (h.ftp b e), ?_, fun b e => hG _ (h.frow b e), by simp [h.len], fun j hj => ?_, fun j hj => ?_, fun b e => by simp only [setCell_size]; exact e.2, fun j hj => ?_, fun j hj b e => ?_, fun a j b ha hj e1 e2 => ?_⟩
    · obtain ⟨cc, hc⟩ := h.tp.kind e
      exact hkeep _ _ _ _ hc (by decide) (by decide)
    · simp only [List.length_set]
      rw [hcs]
      exact hrow.1
    · simp only [List.length_set] at hj
      by_cases e : j = i
      · subst e
        rw [hrsI, hatI]
        exact hlv j hj
      · rw [hrsD j e, hatD j e]
        exact hlv j hj
    · simp only [List.length_set] at hj
      by_cases e : j = i
      · subst e
        rw [hrsI]
        exact hG _ (h.flv j hj)
      · rw [hrsD j e]
        exact hG _ (h.flv j hj)
    · simp only [List.length_set] at hj
      by_cases e : j = i
      · subst e
        rw [hrsI, hatI]
        show World.ownsRow _ _ _ _ _ ((D.sks.getD j Hd.none).taken ++ [p]).length (tkCells ((D.sks.getD j Hd.none).taken ++ [p]))
        rw [tkCells_snoc, List.length_append, hm]
        exact ownsRow_block hown (fun b e => by simp [Value.ownBlock] at e; subst e; exact Below.heap_setCell _ _ _ _ hg2)
      · rw [hrsD j e, hatD j e]
        refine ownsRow_block (h.tk j hj) (fun b e' => ?_)
        obtain ⟨cc, hc⟩ := ownsRow_blk (h.tk j hj) e'
        exact hk3 b (lt_of_blk' hc) (fun e2 => e (h.dtk j i b hj hi e' e2)) (hkg _ _ _ _ hc (by decide))
    · simp only [List.length_set] at hj
      by_cases e9 : j = i
      · subst e9
        rw [hrsI] at e
        simp [Value.ownBlock] at e
        subst e
        refine ⟨?_, ownsRow_lt hown rfl⟩
        rcases hat with e | e
        · exact .inl (h.ftk j hj _ e)
        · exact .inr e
      · rw [hrsD j e9] at e
        exact hG _ (h.ftk j hj b e)
    · simp only [List.length_set] at ha hj
      have hside : ∀ j, j ≠ i → j < D.sks.length → (rs.getD j Ref.none).tk.ownBlock ≠ some g2 := by
        intro j e hj e'
        rcases hat with e2 | e2
        · exact e (h.dtk j i g2 hj hi e' e2)
        · have := ownsRow_lt (h.tk j hj) e'; omega
      by_cases ea : a = i
      · by_cases ej : j = i
        · omega
        · subst ea
          rw [hrsI] at e1
          rw [hrsD j ej] at e2
          simp [Value.ownBlock] at e1
          subst e1
          exact absurd e2 (hside j ej hj)
      · rw [hrsD a ea] at e1
        by_cases ej : j = i
        · subst ej
          rw [hrsI] at e2
          simp [Value.ownBlock] at e2
          subst e2
          exact absurd e1 (hside a ea ha)
        · rw [hrsD j ej] at e2
          exact h.dtk a j b ha hj e1 e2
  · refine Fr.set ⟨hgrow.os.trans hx.os, hgrow.tape.trans hx.tape, hgrow.output.trans hx.output, hsz, fun b hb hn => ?_⟩ (fun _ => h.frow gk rfl) _
    exact hk2 b hb (fun e => hn (h.ftk i hi b e))

set_option maxHeartbeats 400000 in
theorem dseal_no (d : Nat) (D : Dk) (s : Int) (w : World) (h : DeskAt F w d D) (hs : hasB s D.sks.length = false) :
    Calls Try.prog 55 #[.pointer (some ⟨d, 0, none⟩), .int .i64 s] w fun e w' => e = .returned (.int .i64 4) ∧ w' = w := by
  obtain ⟨vt, vk, rs, h⟩ := h
  obtain ⟨ao, c, rfl, _⟩ := h.vkForm
  obtain ⟨_, _, c2, _⟩ := blk3 h.blk
  have HH := hid (has_any d s _ _ _ _ c2)
  rw [hs] at HH
  clear h
  go_enter Try.func55, Try.ntmps55
  go_wp2_with (go_at_call 32; refine HH.out.mono ?_; rintro e w' ⟨rfl, rfl⟩)
  go_ret
  exact ⟨rfl, rfl⟩

set_option maxHeartbeats 400000 in
theorem dseal_twice (d i : Nat) (D : Dk) (w : World) (h : DeskAt F w d D) (hi : i < D.sks.length) (hs : (D.sks.getD i Hd.none).sealed = true) :
    Calls Try.prog 55 #[.pointer (some ⟨d, 0, none⟩), .int .i64 (i : Int)] w fun e w' => e = .returned (.int .i64 5) ∧ w' = w := by
  obtain ⟨vt, vk, rs, h⟩ := h
  obtain ⟨g, c, rfl, hg, q0, q1, q2, q3, q4⟩ := h.cells5 hi
  obtain ⟨_, _, c2, _⟩ := blk3 h.blk
  have HH := hid (has_any d (i : Int) _ _ _ _ c2)
  rw [hasB_nat hi] at HH
  rw [hs] at q4
  have hs1 : (0 : Int) ≤ (i : Int) := by omega
  have hs2 : (i : Int) < (D.sks.length : Int) := by omega
  clear h q0 q1 q2 q3
  generalize D.sks.length = n at *
  go_enter Try.func55, Try.ntmps55
  go_wp2_with (go_at_call 32; refine HH.out.mono ?_; rintro e w' ⟨rfl, rfl⟩)
  go_ret
  exact ⟨rfl, rfl⟩

set_option maxHeartbeats 400000 in
theorem dseal_any (d i : Nat) (D : Dk) (w : World) (h : DeskAt F w d D) (hi : i < D.sks.length) (hs : (D.sks.getD i Hd.none).sealed = false) :
    Calls Try.prog 55 #[.pointer (some ⟨d, 0, none⟩), .int .i64 (i : Int)] w fun e w' => e = .returned (.int .i64 0) ∧ DeskStep F w w' d { D with sks := D.sks.set i { D.sks.getD i Hd.none with sealed := true } } := by
  obtain ⟨vt, vk, rs, h⟩ := h
  obtain ⟨g, c, rfl, hg, q0, q1, q2, q3, q4⟩ := h.cells5 hi
  obtain ⟨_, _, c2, _⟩ := blk3 h.blk
  have HH := hid (has_any d (i : Int) _ _ _ _ c2)
  rw [hasB_nat hi] at HH
  rw [hs] at q4
  have hfr : ∀ o, w.frozen? ⟨g, o, none⟩ = false := by
    intro o
    obtain ⟨cc, hc⟩ := ownsRow_blk h.row (g := g) rfl
    simp [World.frozen?, hc]
  have HST : Hid (DeskStep F w (w.setCell ⟨g, i * 6 + 4, none⟩ (.bool true)) d { D with sks := D.sks.set i { D.sks.getD i Hd.none with sealed := true } }) := ⟨F, ⟨_, _, _, h.seal true hi⟩, fun b hb => .inl hb, (Fr.refl _ w).set (fun _ => h.frow g rfl) _⟩
  have hs1 : (0 : Int) ≤ (i : Int) := by omega
  have hs2 : (i : Int) < (D.sks.length : Int) := by omega
  clear h q0 q1 q2 q3 hs
  generalize hDD : ({ D with sks := D.sks.set i { D.sks.getD i Hd.none with sealed := true } } : Dk) = DD at *
  clear hDD
  generalize D.sks.length = n at *
  go_enter Try.func55, Try.ntmps55
  go_wp2_with (go_at_call 32; refine HH.out.mono ?_; rintro e w' ⟨rfl, rfl⟩)
  go_ret
  exact ⟨rfl, HST.out⟩

end Go.Proofs.Ytklicjbpjigfdab

/- DERIVED. The walks of took and of Take. -/
namespace Go.Proofs.Ytklicjbpjigfdab
open Go.RowKit
attribute [local go_sem ↓] Go.wp_at_zero Go.wp_at_succ
variable {F : Nat → Prop}

/-- Was this report taken? -/
def tookB (l : List (Nat × Nat)) (a b : Int) : Bool := l.any (fun p => (p.1 : Int) == a && (p.2 : Int) == b)
theorem tookB_at {l : List (Nat × Nat)} {a b : Int} (h : tookB l a b = false) {j : Nat} (hj : j < l.length) : ((((l.getD j (0, 0)).1 : Int) == a) && (((l.getD j (0, 0)).2 : Int) == b)) = false := by
  unfold tookB at h
  rw [List.any_eq_false] at h
  have := h (l.getD j (0, 0)) (by simp [List.getD, hj])
  simpa using this
theorem tkCells_at : ∀ (l : List (Nat × Nat)) (j : Nat), j < l.length → (tkCells l)[j * 2]? = some (.int .i64 ((l.getD j (0, 0)).1 : Int)) ∧ (tkCells l)[j * 2 + 1]? = some (.int .i64 ((l.getD j (0, 0)).2 : Int))
  | [], j, h => by simp at h
  | p :: l, 0, _ => ⟨rfl, rfl⟩
  | p :: l, j + 1, h => by
    have := tkCells_at l j (by simpa using h)
    rw [show (j + 1) * 2 = j * 2 + 2 by omega]
    exact this
theorem tookB_take {l : List (Nat × Nat)} {a b : Int} {j : Nat} (hj : j < l.length) : tookB (l.take (j + 1)) a b = (tookB (l.take j) a b || ((((l.getD j (0, 0)).1 : Int) == a) && (((l.getD j (0, 0)).2 : Int) == b))) := by
  unfold tookB
  rw [List.take_succ_eq_append_getElem hj, List.any_append]
  simp [List.getD, hj]
theorem tookB_of {l : List (Nat × Nat)} {a b : Int} {j : Nat} (hj : j < l.length) (h : ((((l.getD j (0, 0)).1 : Int) == a) && (((l.getD j (0, 0)).2 : Int) == b)) = true) : tookB l a b = true := by
  unfold tookB
  rw [List.any_eq_true]
  exact ⟨l.getD j (0, 0), by simp [List.getD, hj], h⟩

set_option maxHeartbeats 1000000 in
set_option maxRecDepth 100000 in
theorem took_any (k g ln cap : Nat) (lo hi : Int) (sl : Bool) (tk : Value) (l : List (Nat × Nat)) (a b : Int) (w : World) (h : w.ownsRow 0 153 2 tk l.length (tkCells l)) (hl : l.length ≤ 1099511627776) :
    Calls Try.prog 98 #[.agg #[.int .i64 (k : Int), .slice (some ⟨g, 0, none⟩) ln cap, .int .i64 lo, .int .i64 hi, .bool sl, tk], .agg #[.int .i64 a, .int .i64 b]] w fun e w' => e = .returned (.bool (tookB l a b)) ∧ Below w.heap.size w w' := by
  have HL := hid h
  have hform : ∃ ao c, tk = .slice ao l.length c ∧ ∀ j, j < l.length → ∃ g, ao = some ⟨g, 0, none⟩ ∧ g < w.heap.size ∧ w.cell? ⟨g, j * 2, none⟩ = some (.int .i64 ((l.getD j (0, 0)).1 : Int)) ∧ w.cell? ⟨g, j * 2 + 1, none⟩ = some (.int .i64 ((l.getD j (0, 0)).2 : Int)) := by
    have h' := h
    rcases h.2 with ⟨e, hn⟩ | ⟨g, cap, cur, e, hg, hh, hnc, hcm, hcs, ht⟩
    · refine ⟨none, 0, by rw [e, hn], fun j hj => by omega⟩
    · refine ⟨some ⟨g, 0, none⟩, cap, e, fun j hj => ⟨g, rfl, ownsRow_lt h' (by rw [e]; rfl), ?_, ?_⟩⟩
      · rw [e] at h'
        exact ownsRow_cell h' (tkCells_at l j hj).1
      · rw [e] at h'
        exact ownsRow_cell h' (tkCells_at l j hj).2
  obtain ⟨ao, c, rfl, hc⟩ := hform
  generalize hn : l.length = n at *
  have HN := hid hn
  have HC := hid hc
  clear h hc hn HL
  go_enter Try.func98, Try.ntmps98
  go_wp2_with fail
  have hbA : Below w.heap.size w ((w.alloc (.cells #[.int .i64 (k : Int), .slice (some ⟨g, 0, none⟩) ln cap, .int .i64 lo, .int .i64 hi, .bool sl, .slice ao n c] 80)).alloc (.cells #[.int .i64 a, .int .i64 b] 153)) := ((Below.refl w.heap.size w).alloc (Nat.le_refl _) _).alloc (by simp) _
  have hpb : ((w.alloc (.cells #[.int .i64 (k : Int), .slice (some ⟨g, 0, none⟩) ln cap, .int .i64 lo, .int .i64 hi, .bool sl, .slice ao n c] 80)).alloc (.cells #[.int .i64 a, .int .i64 b] 153)).heap[w.heap.size + 1]? = some (.cells #[.int .i64 a, .int .i64 b] 153 (0, 0)) := by
    have := heap_alloc_new (w.alloc (.cells #[.int .i64 (k : Int), .slice (some ⟨g, 0, none⟩) ln cap, .int .i64 lo, .int .i64 hi, .bool sl, .slice ao n c] 80)) (.cells #[.int .i64 a, .int .i64 b] 153 (0, 0))
    simpa using this
  go_loopw [10] (fun si wr => ∃ j, j ≤ n ∧ si = .int .i64 (j : Int) ∧ Hid (tookB (l.take j) a b = false) ∧ Hid (Below w.heap.size w wr) ∧ Hid (wr.heap[w.heap.size + 1]? = some (.cells #[.int .i64 a, .int .i64 b] 153 (0, 0)))) (fun si _ => n - (intOf si).toNat)
  case atStart => exact ⟨0, Nat.zero_le _, rfl, by simp [tookB, Hid], hbA, hpb⟩
  case round =>
    obtain ⟨j, hj, rfl, Ht, Hb, Hp⟩ := hrel
    have hwz := Hb.out.size
    obtain ⟨p0, p1, pz⟩ := blk2 Hp.out
    have hpz := lt_of_blk' Hp.out
    by_cases hlt : j < n
    · obtain ⟨g, rfl, hgz, q0, q1⟩ := HC.out j hlt
      have r0 := (Hb.out.cell (p := ⟨g, j * 2, none⟩) hgz).trans q0
      have r1 := (Hb.out.cell (p := ⟨g, j * 2 + 1, none⟩) hgz).trans q1
      have HF := hid (tookB_take (l := l) (a := a) (b := b) (j := j) (by rw [HN.out]; exact hlt))
      have HO := hid (tookB_of (l := l) (a := a) (b := b) (j := j) (by rw [HN.out]; exact hlt))
      generalize l.getD j (0, 0) = p at *
      obtain ⟨x, y⟩ := p
      simp only at r0 r1 HF HO
      clear q0 q1
      by_cases e1 : (x : Int) = a
      · by_cases e2 : (y : Int) = b
        · have hO : tookB l a b = true := HO.out (by simp [e1, e2])
          have HO' := hid hO
          clear hO
          go_wp2_with fail
          go_ret
          exact ⟨by rw [HO'.out]; rfl, Hb.out.alloc Hb.out.size _⟩
        · have e2' : ((y : Int) == b) = false := by simpa using e2
          go_wp2_with fail
          go_roundw
          case rel => exact ⟨j + 1, by omega, by go_num, by unfold Hid; rw [HF.out, Ht.out, e2']; simp, Hb.out.alloc Hb.out.size _, (Below.heap_alloc _ _ _ hpz).trans Hp.out⟩
          case measure => simp [intOf]; omega
      · have e1' : ((x : Int) == a) = false := by simpa using e1
        go_wp2_with fail
        go_roundw
        case rel => exact ⟨j + 1, by omega, by go_num, by unfold Hid; rw [HF.out, Ht.out, e1']; simp, Hb.out.alloc Hb.out.size _, (Below.heap_alloc _ _ _ hpz).trans Hp.out⟩
        case measure => simp [intOf]; omega
    · have hjn : j = n := by omega
      have hT : tookB l a b = false := by
        have := Ht.out
        rw [hjn, ← HN.out, List.take_length] at this
        exact this
      have HT' := hid hT
      clear hT
      go_wp2_with fail
      go_ret
      exact ⟨by rw [HT'.out]; rfl, Hb.out⟩

/-- All six cells of sketch i. -/
theorem DeskIn.cells6 {w : World} {d : Nat} {D : Dk} {vt vk : Value} {rs : List Ref} (h : DeskIn F w d D vt vk rs) {i : Nat} (hi : i < D.sks.length) :
    ∃ g c ao ct, vk = .slice (some ⟨g, 0, none⟩) D.sks.length c ∧ g < w.heap.size ∧ (rs.getD i Ref.none).tk = .slice ao (D.sks.getD i Hd.none).taken.length ct ∧ w.cell? ⟨g, i * 6, none⟩ = some (.int .i64 ((D.sks.getD i Hd.none).sk.k : Int)) ∧
      w.cell? ⟨g, i * 6 + 1, none⟩ = some (.slice (some ⟨(rs.getD i Ref.none).g, 0, none⟩) (D.sks.getD i Hd.none).sk.lv.length (rs.getD i Ref.none).cap) ∧
      w.cell? ⟨g, i * 6 + 2, none⟩ = some (.int .i64 (D.sks.getD i Hd.none).sk.lo) ∧ w.cell? ⟨g, i * 6 + 3, none⟩ = some (.int .i64 (D.sks.getD i Hd.none).sk.hi) ∧
      w.cell? ⟨g, i * 6 + 4, none⟩ = some (.bool (D.sks.getD i Hd.none).sealed) ∧ w.cell? ⟨g, i * 6 + 5, none⟩ = some (.slice ao (D.sks.getD i Hd.none).taken.length ct) ∧ (∀ o, w.frozen? ⟨g, o, none⟩ = false) := by
  obtain ⟨vo, c, e, hc⟩ := h.vkForm
  obtain ⟨g, rfl, hg, hcc⟩ := hc i hi
  have hform : ∃ ao ct, (rs.getD i Ref.none).tk = .slice ao (D.sks.getD i Hd.none).taken.length ct := by
    rcases (h.tk i hi).2 with ⟨e, hn⟩ | ⟨g, cap, cur, e, _⟩
    · exact ⟨none, 0, by rw [e, hn]⟩
    · exact ⟨_, _, e⟩
  obtain ⟨ao, ct, et⟩ := hform
  have hfr : ∀ o, w.frozen? ⟨g, o, none⟩ = false := by
    intro o
    subst e
    obtain ⟨cc, hc⟩ := ownsRow_blk h.row (g := g) rfl
    simp [World.frozen?, hc]
  exact ⟨g, c, ao, ct, e, hg, et, hcc 0 (by omega) _ rfl, hcc 1 (by omega) _ rfl, hcc 2 (by omega) _ rfl, hcc 3 (by omega) _ rfl, hcc 4 (by omega) _ rfl, by rw [← et]; exact hcc 5 (by omega) _ rfl, hfr⟩

set_option maxHeartbeats 400000 in
theorem dtake_no (d : Nat) (D : Dk) (s a b : Int) (t : ByteArray) (w : World) (h : DeskAt F w d D) (hs : hasB s D.sks.length = false) :
    Calls Try.prog 78 #[.pointer (some ⟨d, 0, none⟩), .int .i64 s, .int .i64 a, .int .i64 b, .string t] w fun e w' => e = .returned (.int .i64 4) ∧ w' = w := by
  obtain ⟨vt, vk, rs, h⟩ := h
  obtain ⟨ao, c, rfl, _⟩ := h.vkForm
  obtain ⟨_, _, c2, _⟩ := blk3 h.blk
  have HH := hid (has_any d s _ _ _ _ c2)
  rw [hs] at HH
  clear h
  go_enter Try.func78, Try.ntmps78
  go_wp2_with (go_at_call 32; refine HH.out.mono ?_; rintro e w' ⟨rfl, rfl⟩)
  go_ret
  exact ⟨rfl, rfl⟩

set_option maxHeartbeats 400000 in
theorem dtake_sealed (d i : Nat) (D : Dk) (a b : Int) (t : ByteArray) (w : World) (h : DeskAt F w d D) (hi : i < D.sks.length) (hs : (D.sks.getD i Hd.none).sealed = true) :
    Calls Try.prog 78 #[.pointer (some ⟨d, 0, none⟩), .int .i64 (i : Int), .int .i64 a, .int .i64 b, .string t] w fun e w' => e = .returned (.int .i64 5) ∧ w' = w := by
  obtain ⟨vt, vk, rs, h⟩ := h
  obtain ⟨g, c, rfl, hg, q0, q1, q2, q3, q4⟩ := h.cells5 hi
  obtain ⟨_, _, c2, _⟩ := blk3 h.blk
  have HH := hid (has_any d (i : Int) _ _ _ _ c2)
  rw [hasB_nat hi] at HH
  rw [hs] at q4
  have hs1 : (0 : Int) ≤ (i : Int) := by omega
  have hs2 : (i : Int) < (D.sks.length : Int) := by omega
  clear h q0 q1 q2 q3
  generalize D.sks.length = n at *
  go_enter Try.func78, Try.ntmps78
  go_wp2_with (go_at_call 32; refine HH.out.mono ?_; rintro e w' ⟨rfl, rfl⟩)
  go_ret
  exact ⟨rfl, rfl⟩

set_option maxHeartbeats 400000 in
theorem dtake_arg (d i : Nat) (D : Dk) (a b : Int) (t : ByteArray) (w : World) (h : DeskAt F w d D) (hi : i < D.sks.length) (hs : (D.sks.getD i Hd.none).sealed = false) (ha : ¬ (0 ≤ a ∧ a ≤ 255 ∧ 0 ≤ b)) :
    Calls Try.prog 78 #[.pointer (some ⟨d, 0, none⟩), .int .i64 (i : Int), .int .i64 a, .int .i64 b, .string t] w fun e w' => e = .returned (.int .i64 1) ∧ w' = w := by
  obtain ⟨vt, vk, rs, h⟩ := h
  obtain ⟨g, c, rfl, hg, q0, q1, q2, q3, q4⟩ := h.cells5 hi
  obtain ⟨_, _, c2, _⟩ := blk3 h.blk
  have HH := hid (has_any d (i : Int) _ _ _ _ c2)
  rw [hasB_nat hi] at HH
  rw [hs] at q4
  have hs1 : (0 : Int) ≤ (i : Int) := by omega
  have hs2 : (i : Int) < (D.sks.length : Int) := by omega
  clear h q0 q1 q2 q3
  generalize D.sks.length = n at *
  by_cases h1 : a < 0
  · clear ha
    go_enter Try.func78, Try.ntmps78
    go_wp2_with (go_at_call 32; refine HH.out.mono ?_; rintro e w' ⟨rfl, rfl⟩)
    go_ret
    exact ⟨rfl, rfl⟩
  · by_cases h2 : 255 < a
    · clear ha
      go_enter Try.func78, Try.ntmps78
      go_wp2_with (go_at_call 32; refine HH.out.mono ?_; rintro e w' ⟨rfl, rfl⟩)
      go_ret
      exact ⟨rfl, rfl⟩
    · have h3 : b < 0 := by omega
      clear ha
      go_enter Try.func78, Try.ntmps78
      go_wp2_with (go_at_call 32; refine HH.out.mono ?_; rintro e w' ⟨rfl, rfl⟩)
      go_ret
      exact ⟨rfl, rfl⟩

end Go.Proofs.Ytklicjbpjigfdab

/- DERIVED. The walk of Take: twice, a text that is none, too many, and what comes in. -/
namespace Go.Proofs.Ytklicjbpjigfdab
open Go.RowKit
attribute [local go_sem ↓] Go.wp_at_zero Go.wp_at_succ
variable {F : Nat → Prop}

theorem bdrewT {B : Nat} {w w' : World} (h : Below B w w') : Below B w w'.drew := ⟨h.os, h.tape, h.output, h.size, h.block⟩
theorem Try.infoReport : (Try.prog.info? 153).map (fun i => (i.zero, i.size, i.bytes)) = some (some (.agg #[.int .i64 0, .int .i64 0]), 2, 16) := by kernel_rfl

set_option maxHeartbeats 1000000 in
set_option maxRecDepth 100000 in
theorem dtake_twice (d i : Nat) (D : Dk) (a b : Int) (t : ByteArray) (w : World) (h : DeskAt F w d D) (hi : i < D.sks.length) (hs : (D.sks.getD i Hd.none).sealed = false) (ha1 : 0 ≤ a) (ha2 : a ≤ 255) (hb1 : 0 ≤ b) (hl : (D.sks.getD i Hd.none).taken.length ≤ 1099511627776) (htk : tookB (D.sks.getD i Hd.none).taken a b = true) :
    Calls Try.prog 78 #[.pointer (some ⟨d, 0, none⟩), .int .i64 (i : Int), .int .i64 a, .int .i64 b, .string t] w fun e w' => e = .returned (.int .i64 10) ∧ Below w.heap.size w w' := by
  have hbA : Below w.heap.size w (w.alloc (.cells #[.int .i64 a, .int .i64 b] 153)) := (Below.refl w.heap.size w).alloc (Nat.le_refl _) _
  have hD := h
  obtain ⟨vt, vk, rs, h⟩ := h
  have hdz := lt_of_blk' h.blk
  obtain ⟨g, c, ao, ct, rfl, hg, et, q0, q1, q2, q3, q4, q5, qf⟩ := h.cells6 hi
  obtain ⟨_, _, c2, _⟩ := blk3 h.blk
  have HH := hid (has_any d (i : Int) _ _ _ _ c2)
  rw [hasB_nat hi] at HH
  rw [hs] at q4
  have HTK := hid (fun (w' : World) (hb : Below w.heap.size w w') => took_any (D.sks.getD i Hd.none).sk.k (rs.getD i Ref.none).g (D.sks.getD i Hd.none).sk.lv.length (rs.getD i Ref.none).cap (D.sks.getD i Hd.none).sk.lo (D.sks.getD i Hd.none).sk.hi false (rs.getD i Ref.none).tk (D.sks.getD i Hd.none).taken a b w' ((h.below hb).tk i hi) hl)
  rw [et, htk] at HTK
  have hs1 : (0 : Int) ≤ (i : Int) := by omega
  have hs2 : (i : Int) < (D.sks.length : Int) := by omega
  have HBA := hid hbA
  generalize D.sks.getD i Hd.none = de at *
  generalize rs.getD i Ref.none = r at *
  clear h hbA htk hs et hD
  generalize D.sks.length = n at *
  go_enter Try.func78, Try.ntmps78
  go_wp2_with (go_at_call 32; refine HH.out.mono ?_; rintro e w' ⟨rfl, hw⟩; obtain rfl := hw.symm)
  go_region_with (first | (go_at_call 98; refine (HTK.out _ (bdrewT HBA.out)).mono ?_; rintro e w1 ⟨rfl, hb1'⟩; have hB1 := HBA.out.trans ((undrew hb1').mono HBA.out.size); have hnm := ((undrew hb1').block w.heap.size (by simp)).trans (heap_alloc_new w (.cells #[.int .i64 a, .int .i64 b] 153 (0, 0))); have HB1 := hid hB1; have HNM := hid hnm; clear hB1 hnm hb1'))
  all_goals
    go_wp2_with fail
    go_ret
    exact ⟨rfl, HB1.out⟩

set_option maxHeartbeats 1000000 in
set_option maxRecDepth 100000 in
theorem dtake_text (d i : Nat) (D : Dk) (a b : Int) (t : ByteArray) (w : World) (h : DeskAt F w d D) (hi : i < D.sks.length) (hs : (D.sks.getD i Hd.none).sealed = false) (ha1 : 0 ≤ a) (ha2 : a ≤ 255) (hb1 : 0 ≤ b) (hl : (D.sks.getD i Hd.none).taken.length ≤ 1099511627776) (htk : tookB (D.sks.getD i Hd.none).taken a b = false) (ht : t.size ≤ 140737488355328) (hit : isText (bytesOf t) = false) :
    Calls Try.prog 78 #[.pointer (some ⟨d, 0, none⟩), .int .i64 (i : Int), .int .i64 a, .int .i64 b, .string t] w fun e w' => e = .returned (.int .i64 9) ∧ Below w.heap.size w w' := by
  have hbA : Below w.heap.size w (w.alloc (.cells #[.int .i64 a, .int .i64 b] 153)) := (Below.refl w.heap.size w).alloc (Nat.le_refl _) _
  have hD := h
  obtain ⟨vt, vk, rs, h⟩ := h
  have hdz := lt_of_blk' h.blk
  obtain ⟨g, c, ao, ct, rfl, hg, et, q0, q1, q2, q3, q4, q5, qf⟩ := h.cells6 hi
  obtain ⟨_, _, c2, _⟩ := blk3 h.blk
  have HH := hid (has_any d (i : Int) _ _ _ _ c2)
  rw [hasB_nat hi] at HH
  rw [hs] at q4
  have HTK := hid (fun (w' : World) (hb : Below w.heap.size w w') => took_any (D.sks.getD i Hd.none).sk.k (rs.getD i Ref.none).g (D.sks.getD i Hd.none).sk.lv.length (rs.getD i Ref.none).cap (D.sks.getD i Hd.none).sk.lo (D.sks.getD i Hd.none).sk.hi false (rs.getD i Ref.none).tk (D.sks.getD i Hd.none).taken a b w' ((h.below hb).tk i hi) hl)
  rw [et, htk] at HTK
  have hs1 : (0 : Int) ≤ (i : Int) := by omega
  have hs2 : (i : Int) < (D.sks.length : Int) := by omega
  have HBA := hid hbA
  have HR := hid (fun (w' : World) => read_any (F := fun _ => True) t w' ht (fun _ _ => trivial))
  have HI := hid hit
  generalize D.sks.getD i Hd.none = de at *
  generalize rs.getD i Ref.none = r at *
  clear h hbA htk hs et hD hit
  generalize D.sks.length = n at *
  go_enter Try.func78, Try.ntmps78
  go_wp2_with (go_at_call 32; refine HH.out.mono ?_; rintro e w' ⟨rfl, hw⟩; obtain rfl := hw.symm)
  go_region_with (first | (go_at_call 98; refine (HTK.out _ (bdrewT HBA.out)).mono ?_; rintro e w1 ⟨rfl, hb1'⟩; have hB1 := HBA.out.trans ((undrew hb1').mono HBA.out.size); have hnm := ((undrew hb1').block w.heap.size (by simp)).trans (heap_alloc_new w (.cells #[.int .i64 a, .int .i64 b] 153 (0, 0))); have HB1 := hid hB1; have HNM := hid hnm; clear hB1 hnm hb1'))
  all_goals
    go_wp2_with fail
    refine (HR.out _).mono ?_
    rintro e w2 ⟨hb, h1, _⟩
    obtain rfl := h1 HI.out
    have HB2 := hid (HB1.out.trans (hb.mono HB1.out.size))
    clear h1 hb HR
    go_wp2_with fail
    go_ret
    exact ⟨rfl, HB2.out.alloc HB2.out.size _⟩

set_option maxHeartbeats 1000000 in
set_option maxRecDepth 100000 in
theorem dtake_room (d i : Nat) (D : Dk) (a b : Int) (t : ByteArray) (w : World) (h : DeskAt F w d D) (hi : i < D.sks.length) (hs : (D.sks.getD i Hd.none).sealed = false) (ha1 : 0 ≤ a) (ha2 : a ≤ 255) (hb1 : 0 ≤ b) (hl : (D.sks.getD i Hd.none).taken.length ≤ 1099511627776) (htk : tookB (D.sks.getD i Hd.none).taken a b = false) (ht : t.size ≤ 140737488355328) (hit : isText (bytesOf t) = true) (hroom : 64 ≤ (D.sks.getD i Hd.none).taken.length) :
    Calls Try.prog 78 #[.pointer (some ⟨d, 0, none⟩), .int .i64 (i : Int), .int .i64 a, .int .i64 b, .string t] w fun e w' => e = .returned (.int .i64 3) ∧ Below w.heap.size w w' := by
  have hbA : Below w.heap.size w (w.alloc (.cells #[.int .i64 a, .int .i64 b] 153)) := (Below.refl w.heap.size w).alloc (Nat.le_refl _) _
  have hD := h
  obtain ⟨vt, vk, rs, h⟩ := h
  have hdz := lt_of_blk' h.blk
  obtain ⟨g, c, ao, ct, rfl, hg, et, q0, q1, q2, q3, q4, q5, qf⟩ := h.cells6 hi
  obtain ⟨_, _, c2, _⟩ := blk3 h.blk
  have HH := hid (has_any d (i : Int) _ _ _ _ c2)
  rw [hasB_nat hi] at HH
  rw [hs] at q4
  have HTK := hid (fun (w' : World) (hb : Below w.heap.size w w') => took_any (D.sks.getD i Hd.none).sk.k (rs.getD i Ref.none).g (D.sks.getD i Hd.none).sk.lv.length (rs.getD i Ref.none).cap (D.sks.getD i Hd.none).sk.lo (D.sks.getD i Hd.none).sk.hi false (rs.getD i Ref.none).tk (D.sks.getD i Hd.none).taken a b w' ((h.below hb).tk i hi) hl)
  rw [et, htk] at HTK
  have hs1 : (0 : Int) ≤ (i : Int) := by omega
  have hs2 : (i : Int) < (D.sks.length : Int) := by omega
  have HBA := hid hbA
  have HR := hid (fun (w' : World) => read_any (F := fun _ => True) t w' ht (fun _ _ => trivial))
  have HI := hid hit
  have HIN := hid h
  generalize toldS (bytesOf t) = s at *
  generalize hde : D.sks.getD i Hd.none = de at *
  generalize hr : rs.getD i Ref.none = r at *
  clear h hbA htk hs et hD hit
  go_enter Try.func78, Try.ntmps78
  go_wp2_with (go_at_call 32; refine HH.out.mono ?_; rintro e w' ⟨rfl, hw⟩; obtain rfl := hw.symm)
  go_region_with (first | (go_at_call 98; refine (HTK.out _ (bdrewT HBA.out)).mono ?_; rintro e w1 ⟨rfl, hb1'⟩; have hB1 := HBA.out.trans ((undrew hb1').mono HBA.out.size); have hnm := ((undrew hb1').block w.heap.size (by simp)).trans (heap_alloc_new w (.cells #[.int .i64 a, .int .i64 b] 153 (0, 0))); have HB1 := hid hB1; have HNM := hid hnm; clear hB1 hnm hb1'))
  all_goals
    go_wp2_with fail
    refine (HR.out _).mono ?_
    rintro e w2 ⟨hb, _, h1⟩
    obtain ⟨g1, vs1, rfl, hg1, hL1⟩ := h1 HI.out
    have hB2 := HB1.out.trans (hb.mono HB1.out.size)
    have HB2 := hid hB2
    have p2 := (hB2.cell (p := ⟨d, 2, none⟩) hdz).trans c2
    have p5 := (hB2.cell (p := ⟨g, i * 6 + 5, none⟩) hg).trans q5
    have hd2 : d < w2.heap.size := Nat.lt_of_lt_of_le hdz hB2.size
    have hg2 : g < w2.heap.size := Nat.lt_of_lt_of_le hg hB2.size
    clear h1 hb HR hL1 hB2
    go_wp2_with fail
    go_ret
    exact ⟨rfl, HB2.out.alloc HB2.out.size _⟩

end Go.Proofs.Ytklicjbpjigfdab
