/- DERIVED. The desk in memory. -/
import Derived.Test.YtklicjbpjigfdabSetW
import Derived.Test.YtklicjbpjigfdabWithW
import Derived.Test.YtklicjbpjigfdabTellW
import Derived.Test.YtklicjbpjigfdabTapeW
namespace Go.Proofs.Ytklicjbpjigfdab
open Go.RowKit

theorem Try.infoHeld : (Try.prog.info? 80).map (fun i => (i.zero, i.size, i.bytes)) = some (some (.agg #[.int .i64 0, .slice none 0 0, .int .i64 0, .int .i64 0, .bool false, .slice none 0 0]), 6, 80) := by kernel_rfl

/-- A sketch on a desk. -/
structure Hd where
  sk : Sk
  sealed : Bool
  taken : List (Nat × Nat)
/-- A desk: its room, its coins, its sketches. -/
structure Dk where
  room : Nat
  tape : List Bool
  sks : List Hd
/-- Where a sketch's levels lie. -/
structure Ref where
  g : Nat
  cap : Nat
  vs : List Value
  tk : Value
def Ref.none : Ref := { g := 0, cap := 0, vs := [], tk := .slice Option.none 0 0 }
def Hd.none : Hd := { sk := { k := 0, lv := [], lo := 0, hi := 0 }, sealed := false, taken := [] }

/-- The cells of the reports that were taken. -/
def tkCells : List (Nat × Nat) → List Value
  | [] => []
  | p :: l => .int .i64 (p.1 : Int) :: .int .i64 (p.2 : Int) :: tkCells l

/-- The cells of one sketch on the desk. -/
def hdCell (r : Ref) (h : Hd) : List Value := [.int .i64 (h.sk.k : Int), .slice (some ⟨r.g, 0, none⟩) h.sk.lv.length r.cap, .int .i64 h.sk.lo, .int .i64 h.sk.hi, .bool h.sealed, r.tk]
def hdCells : List Ref → List Hd → List Value
  | r :: rs, h :: hs => hdCell r h ++ hdCells rs hs
  | _, _ => []

theorem hdCells_length : ∀ (rs : List Ref) (hs : List Hd), rs.length = hs.length → (hdCells rs hs).length = hs.length * 6 := by
  intro rs
  induction rs with
  | nil => intro hs h; cases hs with | nil => simp [hdCells] | cons => simp at h
  | cons r rs ih =>
    intro hs h
    cases hs with
    | nil => simp at h
    | cons x hs => simp only [hdCells, hdCell, List.length_append, List.length_cons, List.length_nil, ih hs (by simpa using h)]; omega
theorem hdCells_at : ∀ (rs : List Ref) (hs : List Hd) (i j : Nat), rs.length = hs.length → i < hs.length → j < 6 → (hdCells rs hs)[i * 6 + j]? = (hdCell (rs.getD i Ref.none) (hs.getD i Hd.none))[j]? := by
  intro rs
  induction rs with
  | nil => intro hs i j h hi; simp at h; omega
  | cons r rs ih =>
    intro hs i j h hi hj
    cases hs with
    | nil => simp at hi
    | cons x hs =>
      cases i with
      | zero =>
        simp only [hdCells, Nat.zero_mul, Nat.zero_add]
        rw [List.getElem?_append_left (by simp [hdCell]; omega)]
        rfl
      | succ i =>
        simp only [hdCells]
        rw [List.getElem?_append_right (by simp [hdCell]; omega), show (i + 1) * 6 + j - (hdCell r x).length = i * 6 + j by simp [hdCell]; omega, ih hs i j (by simpa using h) (by simpa using hi) hj]
        rfl
theorem hdCells_set : ∀ (rs : List Ref) (hs : List Hd) (i : Nat) (r : Ref) (x : Hd), rs.length = hs.length → i < hs.length → x.sealed = (hs.getD i Hd.none).sealed → r.tk = (rs.getD i Ref.none).tk →
    hdCells (rs.set i r) (hs.set i x) = ((((hdCells rs hs).set (i * 6) (.int .i64 (x.sk.k : Int))).set (i * 6 + 1) (.slice (some ⟨r.g, 0, none⟩) x.sk.lv.length r.cap)).set (i * 6 + 2) (.int .i64 x.sk.lo)).set (i * 6 + 3) (.int .i64 x.sk.hi) := by
  intro rs
  induction rs with
  | nil => intro hs i r x h hi; simp at h; omega
  | cons a rs ih =>
    intro hs i r x h hi hx hr
    cases hs with
    | nil => simp at hi
    | cons y hs =>
      cases i with
      | zero => simp at hx hr; simp [hdCells, hdCell, hx, hr]
      | succ i =>
        have := ih hs i r x (by simpa using h) (by simpa using hi) (by simpa using hx) (by simpa using hr)
        simp only [List.set_cons_succ, hdCells, this]
        simp only [hdCell, List.cons_append, List.nil_append]
        rw [show (i + 1) * 6 = i * 6 + 6 by omega]
        rfl
theorem hdCells_push : ∀ (rs : List Ref) (hs : List Hd) (r : Ref) (x : Hd), rs.length = hs.length → hdCells (rs ++ [r]) (hs ++ [x]) = hdCells rs hs ++ hdCell r x := by
  intro rs
  induction rs with
  | nil => intro hs r x h; cases hs with | nil => simp [hdCells] | cons => simp at h
  | cons a rs ih =>
    intro hs r x h
    cases hs with
    | nil => simp at h
    | cons y hs => simp [hdCells, ih hs r x (by simpa using h)]

/-- The desk D lies in block d, all of it in blocks of F. -/
structure DeskIn (F : Nat → Prop) (w : World) (d : Nat) (D : Dk) (vt vk : Value) (rs : List Ref) : Prop where
  blk : w.heap[d]? = some (.cells #[.int .i64 (D.room : Int), vt, vk] 86 (0, 0))
  fd : F d
  tp : Bools w vt D.tape
  ftp : ∀ b, vt.ownBlock = some b → F b
  row : w.ownsRow 0 80 6 vk D.sks.length (hdCells rs D.sks)
  frow : ∀ b, vk.ownBlock = some b → F b
  len : rs.length = D.sks.length
  lv : ∀ i, i < D.sks.length → LvAt F w (rs.getD i Ref.none).g (rs.getD i Ref.none).cap (rs.getD i Ref.none).vs (D.sks.getD i Hd.none).sk.lv
  flv : ∀ i, i < D.sks.length → F (rs.getD i Ref.none).g
  flt : ∀ b, F b → b < w.heap.size
  tk : ∀ i, i < D.sks.length → w.ownsRow 0 153 2 (rs.getD i Ref.none).tk (D.sks.getD i Hd.none).taken.length (tkCells (D.sks.getD i Hd.none).taken)
  ftk : ∀ i, i < D.sks.length → ∀ b, (rs.getD i Ref.none).tk.ownBlock = some b → F b
  dtk : ∀ i j b, i < D.sks.length → j < D.sks.length → (rs.getD i Ref.none).tk.ownBlock = some b → (rs.getD j Ref.none).tk.ownBlock = some b → i = j
def DeskAt (F : Nat → Prop) (w : World) (d : Nat) (D : Dk) : Prop := ∃ vt vk rs, DeskIn F w d D vt vk rs

theorem LvAt.keep {F : Nat → Prop} {w w' : World} {g cap : Nat} {vs : List Value} {L : List Lvl} (h : LvAt F w g cap vs L) (hg : F g) (hb : ∀ b, F b → w'.heap[b]? = w.heap[b]?) : LvAt F w' g cap vs L :=
  ⟨ownsRow_block h.row (fun b e => by simp [Value.ownBlock] at e; subst e; exact hb _ hg), h.len, fun j hj => (h.its j hj).block (fun b e => hb b (h.fp j hj b e)), h.fp⟩
theorem LvAt.mono {F G : Nat → Prop} {w : World} {g cap : Nat} {vs : List Value} {L : List Lvl} (h : LvAt F w g cap vs L) (hFG : ∀ b, F b → b < w.heap.size → G b) : LvAt G w g cap vs L :=
  ⟨h.row, h.len, h.its, fun j hj b e => hFG b (h.fp j hj b e) (ownsRow_lt (h.its j hj) e)⟩

/-- Whoever keeps F keeps the desk. -/
theorem DeskIn.keep {F : Nat → Prop} {w w' : World} {d : Nat} {D : Dk} {vt vk : Value} {rs : List Ref} (h : DeskIn F w d D vt vk rs) (hs : w.heap.size ≤ w'.heap.size) (hb : ∀ b, F b → w'.heap[b]? = w.heap[b]?) : DeskIn F w' d D vt vk rs :=
  ⟨(hb d h.fd).trans h.blk, h.fd, ownsRow_block h.tp (fun b e => hb b (h.ftp b e)), h.ftp, ownsRow_block h.row (fun b e => hb b (h.frow b e)), h.frow, h.len, fun i hi => (h.lv i hi).keep (h.flv i hi) hb, h.flv, fun b e => Nat.lt_of_lt_of_le (h.flt b e) hs, fun i hi => ownsRow_block (h.tk i hi) (fun b e => hb b (h.ftk i hi b e)), h.ftk, h.dtk⟩
theorem DeskAt.keep {F : Nat → Prop} {w w' : World} {d : Nat} {D : Dk} (h : DeskAt F w d D) (hs : w.heap.size ≤ w'.heap.size) (hb : ∀ b, F b → w'.heap[b]? = w.heap[b]?) : DeskAt F w' d D := by
  obtain ⟨vt, vk, rs, h⟩ := h
  exact ⟨vt, vk, rs, h.keep hs hb⟩
theorem DeskAt.below {F : Nat → Prop} {w w' : World} {d : Nat} {D : Dk} (h : DeskAt F w d D) (hb : Below w.heap.size w w') : DeskAt F w' d D := by
  obtain ⟨vt, vk, rs, h⟩ := h
  exact ⟨vt, vk, rs, h.keep hb.size (fun b e => hb.block b (h.flt b e))⟩
theorem DeskIn.below {F : Nat → Prop} {w w' : World} {d : Nat} {D : Dk} {vt vk : Value} {rs : List Ref} (h : DeskIn F w d D vt vk rs) (hb : Below w.heap.size w w') : DeskIn F w' d D vt vk rs := h.keep hb.size (fun b e => hb.block b (h.flt b e))

/-- The row of sketches: nil if there are none yet. -/
theorem DeskIn.vkForm {F : Nat → Prop} {w : World} {d : Nat} {D : Dk} {vt vk : Value} {rs : List Ref} (h : DeskIn F w d D vt vk rs) : ∃ ao c, vk = .slice ao D.sks.length c ∧ (∀ i, i < D.sks.length → ∃ g, ao = some ⟨g, 0, none⟩ ∧ g < w.heap.size ∧ ∀ j, j < 6 → ∀ u, (hdCell (rs.getD i Ref.none) (D.sks.getD i Hd.none))[j]? = some u → w.cell? ⟨g, i * 6 + j, none⟩ = some u) := by
  have h' := h.row
  rcases h.row.2 with ⟨e, hn⟩ | ⟨g, cap, cur, e, hg, hh, hnc, hcm, hcs, ht⟩
  · refine ⟨none, 0, by rw [e, hn], fun i hi => by omega⟩
  · refine ⟨some ⟨g, 0, none⟩, cap, e, fun i hi => ⟨g, rfl, ?_, fun j hj u hu => ?_⟩⟩
    · exact ownsRow_lt h' (by rw [e]; rfl)
    · rw [e] at h'
      exact ownsRow_cell h' (by rw [hdCells_at rs D.sks i j h.len hi hj]; exact hu)
theorem DeskIn.vtForm {F : Nat → Prop} {w : World} {d : Nat} {D : Dk} {vt vk : Value} {rs : List Ref} (h : DeskIn F w d D vt vk rs) : ∃ ao c, vt = .slice ao D.tape.length c := by
  obtain ⟨ao, c, e, _⟩ := h.tp.form
  exact ⟨ao, c, e⟩

end Go.Proofs.Ytklicjbpjigfdab
