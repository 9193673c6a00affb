/- DERIVED. What thin's stores do to a sketch in memory: lemmas outside the walk. -/
import Derived.Test.YtklicjbpjigfdabMakeW
import Derived.Test.YtklicjbpjigfdabJnW
namespace Go.Proofs.Ytklicjbpjigfdab
open Go.RowKit
variable {F : Nat → Prop}

/-- The block of a sketch's variable. -/
abbrev skBlock (k g n cap : Nat) (lo hi : Int) : Obj := .cells #[.int .i64 (k : Int), .slice (some ⟨g, 0, none⟩) n cap, .int .i64 lo, .int .i64 hi] 77 (0, 0)

/-- A sketch's variable lies in block b, its levels from block B on; below B nothing has turned since w. -/
def SkSt (F : Nat → Prop) (B b k : Nat) (lo hi : Int) (L : List Lvl) (w wc : World) : Prop :=
  ∃ g cap vs, B ≤ g ∧ wc.heap[b]? = some (skBlock k g L.length cap lo hi) ∧ LvAt F wc g cap vs L ∧ Below B w wc

theorem SkSt.lt {B b k : Nat} {lo hi : Int} {L : List Lvl} {w wc : World} (h : SkSt F B b k lo hi L w wc) : b < wc.heap.size := by
  obtain ⟨g, cap, vs, _, hb, _⟩ := h
  exact (Array.getElem?_eq_some_iff.1 hb).1
theorem SkSt.below {B b k : Nat} {lo hi : Int} {L : List Lvl} {w wc w' : World} (h : SkSt F B b k lo hi L w wc) (hB : B ≤ wc.heap.size) (hb : Below wc.heap.size wc w') : SkSt F B b k lo hi L w w' := by
  have hlt := h.lt
  obtain ⟨g, cap, vs, h1, h2, h3, h4⟩ := h
  exact ⟨g, cap, vs, h1, (hb.block b hlt).trans h2, h3.below hb, h4.trans (hb.mono hB)⟩

/-- Rows of numbers stay as they were. -/
def IntsKept (w w' : World) : Prop := ∀ (c : Nat) (cc : Array Value), w.heap[c]? = some (.cells cc 3 (0, 0)) → w'.heap[c]? = w.heap[c]?
theorem Ints.kept {w w' : World} {v : Value} {xs : List Int} (h : Ints w v xs) (hk : IntsKept w w') : Ints w' v xs :=
  h.block (fun b hb => by obtain ⟨c, hc⟩ := h.kind hb; exact hk b c hc)
theorem lt_of_blk {w : World} {b : Nat} {o : Obj} (h : w.heap[b]? = some o) : b < w.heap.size := (Array.getElem?_eq_some_iff.1 h).1
theorem IntsKept.trans {a b c : World} (h : IntsKept a b) (k : IntsKept b c) : IntsKept a c := fun i cc hc => by
  have e := h i cc hc
  rw [← e]; exact k i cc (e.trans hc)
theorem IntsKept.below {w w' : World} (h : Below w.heap.size w w') : IntsKept w w' := fun c _ hc => h.block c (lt_of_blk hc)
theorem IntsKept.alloc (w : World) (o : Obj) : IntsKept w (w.alloc o) := fun _ _ hc => Below.heap_alloc _ _ _ (lt_of_blk hc)
theorem IntsKept.set {w : World} {b i : Nat} {v : Value} {c : Array Value} {t : TypeId} {fr : Nat × Nat} (hb : w.heap[b]? = some (.cells c t fr)) (ht : t ≠ 3) : IntsKept w (w.setCell ⟨b, i, none⟩ v) := fun j cc hj =>
  Below.heap_setCell _ _ _ _ (fun e => by subst e; rw [hb] at hj; cases hj; exact ht rfl)
theorem IntsKept.grown {w w' : World} {g : Nat} {c : Array Value} {t : TypeId} {fr : Nat × Nat} (h : w.grownBy w' (some g)) (hg : w.heap[g]? = some (.cells c t fr)) (ht : t ≠ 3) : IntsKept w w' := fun j cc hj =>
  h.block j (lt_of_blk hj) (fun e => by cases e; rw [hg] at hj; cases hj; exact ht rfl)

theorem LvAt.blk {w : World} {g cap : Nat} {vs : List Value} {L : List Lvl} (h : LvAt F w g cap vs L) : ∃ c, w.heap[g]? = some (.cells c 125 (0, 0)) := by
  rcases h.row.2 with ⟨hv, _⟩ | ⟨g', cap', cur', hv, _, hh, _⟩
  · cases hv
  · cases hv; exact ⟨cur', hh⟩
theorem ownsRow_up {w : World} {b b' : Nat} {e : TypeId} {size n cap g : Nat} {xs : List Value} (h : w.ownsRow b e size (.slice (some ⟨g, 0, none⟩) n cap) n xs) (hg : b' ≤ g) : w.ownsRow b' e size (.slice (some ⟨g, 0, none⟩) n cap) n xs := by
  refine ⟨h.1, ?_⟩
  rcases h.2 with ⟨hv, _⟩ | ⟨g', cap', cur', hv, _, r⟩
  · cases hv
  · cases hv; exact .inr ⟨g, cap, cur', rfl, hg, r⟩

theorem grow_blk {b g1 : Nat} {o o' : Obj} {wr w1 : World} (hb : wr.heap[b]? = some o') (hgrow : (wr.alloc o).grownBy w1 (some g1)) (hne : b ≠ g1) : w1.heap[b]? = some o' :=
  (hgrow.block b (by have := lt_of_blk hb; simp; omega) (by simpa using hne)).trans ((Below.heap_alloc _ _ _ (lt_of_blk hb)).trans hb)
/-- A level is made on top. -/
theorem grow_st {B b k g1 cap1 g2 cap2 : Nat} {lo hi : Int} {L : List Lvl} {vs1 : List Value} {w0 wr w1 : World} {o : Obj} (hB : B ≤ g1) (hb : wr.heap[b]? = some (skBlock k g1 L.length cap1 lo hi)) (hL : LvAt F wr g1 cap1 vs1 L) (hbel : Below B w0 wr) (hBb : B ≤ b) (hBr : B ≤ wr.heap.size)
    (hown : w1.ownsRow B 125 2 (.slice (some ⟨g2, 0, none⟩) (L.length + 1) cap2) (L.length + 1) (lvCells vs1 L ++ [.slice none 0 0, .int .i64 0]))
    (hgrow : (wr.alloc o).grownBy w1 (some g1)) (hat : some g1 = some g2 ∨ g2 = wr.heap.size + 1) :
    SkSt F B b k lo hi (L ++ [Lvl.none]) w0 (w1.setCell ⟨b, 1, none⟩ (.slice (some ⟨g2, 0, none⟩) (L.length + 1) cap2)) ∧ IntsKept wr (w1.setCell ⟨b, 1, none⟩ (.slice (some ⟨g2, 0, none⟩) (L.length + 1) cap2)) := by
  obtain ⟨cg, hcg⟩ := hL.blk
  have hne : b ≠ g1 := hL.ne hb (by decide)
  have hbz := lt_of_blk hb
  have hgz := lt_of_blk hcg
  have hb1 : w1.heap[b]? = some (skBlock k g1 L.length cap1 lo hi) := (hgrow.block b (by simp; omega) (by simpa using hne)).trans ((Below.heap_alloc _ _ _ hbz).trans hb)
  have hk1 : IntsKept wr w1 := (IntsKept.alloc wr o).trans (IntsKept.grown hgrow ((Below.heap_alloc _ _ _ hgz).trans hcg) (by decide))
  have hk2 : IntsKept w1 (w1.setCell ⟨b, 1, none⟩ (.slice (some ⟨g2, 0, none⟩) (L.length + 1) cap2)) := IntsKept.set hb1 (by decide)
  obtain ⟨c2, hc2⟩ : ∃ c, w1.heap[g2]? = some (.cells c 125 (0, 0)) := by
    rcases hown.2 with ⟨hv, _⟩ | ⟨g', cap', cur', hv, _, hh, _⟩
    · cases hv
    · cases hv; exact ⟨cur', hh⟩
  have hne2 : g2 ≠ b := fun e => by subst e; rw [hb1] at hc2; cases hc2
  refine ⟨⟨g2, cap2, vs1 ++ [.slice none 0 0], ?_, ?_, ⟨?_, ?_, ?_, ?_⟩, ?_⟩, hk1.trans hk2⟩
  · rcases hat with e | e
    · cases e; exact hB
    · omega
  · have := blk_set (i := 1) (.slice (some ⟨g2, 0, none⟩) (L.length + 1) cap2) hb1
    rw [this]; simp
  · rw [lvCells_push _ _ _ _ hL.len]
    refine ownsRow_block (ownsRow_base ?_ (Nat.zero_le B)) (fun g hg => Below.heap_setCell _ _ _ _ ?_)
    · simpa [Lvl.none] using hown
    · simp [Value.ownBlock] at hg; subst hg; exact hne2
  · simp [hL.len]
  · intro j hj
    by_cases hjl : j < L.length
    · have e1 : (vs1 ++ [Value.slice none 0 0]).getD j undef = vs1.getD j undef := by simp [List.getD, List.getElem?_append, hL.len, hjl]
      have e2 : (L ++ [Lvl.none]).getD j Lvl.none = L.getD j Lvl.none := by simp [List.getD, List.getElem?_append, hjl]
      rw [e1, e2]
      exact (hL.its j hjl).kept (hk1.trans hk2)
    · have e : j = L.length := by simp at hj; omega
      subst e
      have e1 : (vs1 ++ [Value.slice none 0 0]).getD L.length undef = .slice none 0 0 := by simp [List.getD, ← hL.len]
      have e2 : (L ++ [Lvl.none]).getD L.length Lvl.none = Lvl.none := by simp [List.getD]
      rw [e1, e2]
      exact Ints.nil _
  · intro j hj c hc
    by_cases hjl : j < L.length
    · have e1 : (vs1 ++ [Value.slice none 0 0]).getD j undef = vs1.getD j undef := by simp [List.getD, List.getElem?_append, hL.len, hjl]
      rw [e1] at hc
      exact hL.fp j hjl c hc
    · have e : j = L.length := by simp at hj; omega
      subst e
      have e1 : (vs1 ++ [Value.slice none 0 0]).getD L.length undef = .slice none 0 0 := by simp [List.getD, ← hL.len]
      rw [e1] at hc
      simp [Value.ownBlock] at hc
  · exact (((hbel.alloc hBr _).grown hgrow (by simp; omega) (fun k h => by cases h; exact hB)).setCell hBb _)

/-- A level's list is put in place. -/
theorem items_st {B b k g cap h : Nat} {lo hi : Int} {L : List Lvl} {vs : List Value} {w0 wr w1 : World} {v : Value} {X : List Int} (hB : B ≤ g) (hb : wr.heap[b]? = some (skBlock k g L.length cap lo hi)) (hL : LvAt F wr g cap vs L) (hbel : Below B w0 wr) (hBr : B ≤ wr.heap.size)
    (hb1 : Below wr.heap.size wr w1) (hv : Ints w1 v X) (hF : ∀ b, v.ownBlock = some b → F b) (hh : h < L.length) :
    SkSt F B b k lo hi (setItems L h X) w0 (w1.setCell ⟨g, h * 2, none⟩ v) ∧ IntsKept wr (w1.setCell ⟨g, h * 2, none⟩ v) := by
  have hL1 := hL.below hb1
  have hbw1 : w1.heap[b]? = some (skBlock k g L.length cap lo hi) := (hb1.block b (lt_of_blk hb)).trans hb
  obtain ⟨c, hc⟩ := hL1.blk
  refine ⟨⟨g, cap, _, hB, ?_, hL1.setItems hv hF hh, (hbel.trans (hb1.mono hBr)).setCell hB _⟩, (IntsKept.below hb1).trans (IntsKept.set hc (by decide))⟩
  rw [Below.heap_setCell _ _ _ _ (hL1.ne hbw1 (by decide)), setItems_length]
  exact hbw1
/-- A level's times are put in place. -/
theorem times_st {B b k g cap h t : Nat} {lo hi : Int} {L : List Lvl} {vs : List Value} {w0 wr : World} (hB : B ≤ g) (hb : wr.heap[b]? = some (skBlock k g L.length cap lo hi)) (hL : LvAt F wr g cap vs L) (hbel : Below B w0 wr) (hh : h < L.length) :
    SkSt F B b k lo hi (setTimes L h t) w0 (wr.setCell ⟨g, h * 2 + 1, none⟩ (.int .i64 (t : Int))) ∧ IntsKept wr (wr.setCell ⟨g, h * 2 + 1, none⟩ (.int .i64 (t : Int))) := by
  obtain ⟨c, hc⟩ := hL.blk
  refine ⟨⟨g, cap, _, hB, ?_, hL.setTimes hh, hbel.setCell hB _⟩, IntsKept.set hc (by decide)⟩
  rw [Below.heap_setCell _ _ _ _ (hL.ne hb (by decide)), setTimes_length]
  exact hb

end Go.Proofs.Ytklicjbpjigfdab
