/- DERIVED. What thin's stores do to a sketch in memory: lemmas outside the walk. -/
import Derived.Test.YtklicjbpjigfdabGreatQ2
import Derived.Test.YtklicjbpjigfdabGreatJnW
namespace Go.Proofs.YtklicjbpjigfdabGreat
open Go.RowKit
variable {F : Nat → Prop}

/-- The block of a sketch's variable. -/
abbrev skBlock (k g n cap : Nat) (lo hi : Int) : Obj := .cells #[.int .i64 (k : Int), .slice (some ⟨g, 0, none⟩) n cap, .int .i64 lo, .int .i64 hi] 64 (0, 0)

/-- A sketch's variable lies in block b, its levels from block B on; below B nothing has turned since w. -/
def SkSt (F : Nat → Prop) (B b k : Nat) (lo hi : Int) (L : List Lvl) (w wc : World) : Prop :=
  ∃ g cap vs, B ≤ g ∧ wc.heap[b]? = some (skBlock k g L.length cap lo hi) ∧ LvAt F wc g cap vs L ∧ Below B w wc

theorem SkSt.lt {B b k : Nat} {lo hi : Int} {L : List Lvl} {w wc : World} (h : SkSt F B b k lo hi L w wc) : b < wc.heap.size := by
  obtain ⟨g, cap, vs, _, hb, _⟩ := h
  exact (Array.getElem?_eq_some_iff.1 hb).1
theorem SkSt.below {B b k : Nat} {lo hi : Int} {L : List Lvl} {w wc w' : World} (h : SkSt F B b k lo hi L w wc) (hB : B ≤ wc.heap.size) (hb : Below wc.heap.size wc w') : SkSt F B b k lo hi L w w' := by
  have hlt := h.lt
  obtain ⟨g, cap, vs, h1, h2, h3, h4⟩ := h
  exact ⟨g, cap, vs, h1, (hb.block b hlt).trans h2, h3.below hb, h4.trans (hb.mono hB)⟩

/-- Rows of numbers stay as they were. -/
def IntsKept (w w' : World) : Prop := ∀ (c : Nat) (cc : Array Value), w.heap[c]? = some (.cells cc 3 (0, 0)) → w'.heap[c]? = w.heap[c]?
theorem Ints.kept {w w' : World} {v : Value} {xs : List Int} (h : Ints w v xs) (hk : IntsKept w w') : Ints w' v xs :=
  h.block (fun b hb => by obtain ⟨c, hc⟩ := h.kind hb; exact hk b c hc)
theorem lt_of_blk {w : World} {b : Nat} {o : Obj} (h : w.heap[b]? = some o) : b < w.heap.size := (Array.getElem?_eq_some_iff.1 h).1
theorem IntsKept.trans {a b c : World} (h : IntsKept a b) (k : IntsKept b c) : IntsKept a c := fun i cc hc => by
  have e := h i cc hc
  rw [← e]; exact k i cc (e.trans hc)
theorem IntsKept.below {w w' : World} (h : Below w.heap.size w w') : IntsKept w w' := fun c _ hc => h.block c (lt_of_blk hc)
theorem IntsKept.alloc (w : World) (o : Obj) : IntsKept w (w.alloc o) := fun _ _ hc => Below.heap_alloc _ _ _ (lt_of_blk hc)
theorem IntsKept.set {w : World} {b i : Nat} {v : Value} {c : Array Value} {t : TypeId} {fr : Nat × Nat} (hb : w.heap[b]? = some (.cells c t fr)) (ht : t ≠ 3) : IntsKept w (w.setCell ⟨b, i, none⟩ v) := fun j cc hj =>
  Below.heap_setCell _ _ _ _ (fun e => by subst e; rw [hb] at hj; cases hj; exact ht rfl)
theorem IntsKept.grown {w w' : World} {g : Nat} {c : Array Value} {t : TypeId} {fr : Nat × Nat} (h : w.grownBy w' (some g)) (hg : w.heap[g]? = some (.cells c t fr)) (ht : t ≠ 3) : IntsKept w w' := fun j cc hj =>
  h.block j (lt_of_blk hj) (fun e => by cases e; rw [hg] at hj; cases hj; exact ht rfl)

theorem LvAt.blk {w : World} {g cap : Nat} {vs : List Value} {L : List Lvl} (h : LvAt F w g cap vs L) : ∃ c, w.heap[g]? = some (.cells c 140 (0, 0)) := by
  rcases h.row.2 with ⟨hv, _⟩ | ⟨g', cap', cur', hv, _, hh, _⟩
  · cases hv
  · cases hv; exact ⟨cur', hh⟩
theorem ownsRow_up {w : World} {b b' : Nat} {e : TypeId} {size n cap g : Nat} {xs : List Value} (h : w.ownsRow b e size (.slice (some ⟨g, 0, none⟩) n cap) n xs) (hg : b' ≤ g) : w.ownsRow b' e size (.slice (some ⟨g, 0, none⟩) n cap) n xs := by
  refine ⟨h.1, ?_⟩
  rcases h.2 with ⟨hv, _⟩ | ⟨g', cap', cur', hv, _, r⟩
  · cases hv
  · cases hv; exact .inr ⟨g, cap, cur', rfl, hg, r⟩

theorem grow_blk {b g1 : Nat} {o o' : Obj} {wr w1 : World} (hb : wr.heap[b]? = some o') (hgrow : (wr.alloc o).grownBy w1 (some g1)) (hne : b ≠ g1) : w1.heap[b]? = some o' :=
  (hgrow.block b (by have := lt_of_blk hb; simp; omega) (by simpa using hne)).trans ((Below.heap_alloc _ _ _ (lt_of_blk hb)).trans hb)
/-- A level is made on top. -/
theorem grow_st {B b k g1 cap1 g2 cap2 : Nat} {lo hi : Int} {L : List Lvl} {vs1 : List Value} {w0 wr w1 : World} {o : Obj} (hB : B ≤ g1) (hb : wr.heap[b]? = some (skBlock k g1 L.length cap1 lo hi)) (hL : LvAt F wr g1 cap1 vs1 L) (hbel : Below B w0 wr) (hBb : B ≤ b) (hBr : B ≤ wr.heap.size)
    (hown : w1.ownsRow B 140 2 (.slice (some ⟨g2, 0, none⟩) (L.length + 1) cap2) (L.length + 1) (lvCells vs1 L ++ [.slice none 0 0, .int .i64 0]))
    (hgrow : (wr.alloc o).grownBy w1 (some g1)) (hat : some g1 = some g2 ∨ g2 = wr.heap.size + 1) :
    SkSt F B b k lo hi (L ++ [Lvl.none]) w0 (w1.setCell ⟨b, 1, none⟩ (.slice (some ⟨g2, 0, none⟩) (L.length + 1) cap2)) ∧ IntsKept wr (w1.setCell ⟨b, 1, none⟩ (.slice (some ⟨g2, 0, none⟩) (L.length + 1) cap2)) := by
  obtain ⟨cg, hcg⟩ := hL.blk
  have hne : b ≠ g1 := hL.ne hb (by decide)
  have hbz := lt_of_blk hb
  have hgz := lt_of_blk hcg
  have hb1 : w1.heap[b]? = some (skBlock k g1 L.length cap1 lo hi) := (hgrow.block b (by simp; omega) (by simpa using hne)).trans ((Below.heap_alloc _ _ _ hbz).trans hb)
  have hk1 : IntsKept wr w1 := (IntsKept.alloc wr o).trans (IntsKept.grown hgrow ((Below.heap_alloc _ _ _ hgz).trans hcg) (by decide))
  have hk2 : IntsKept w1 (w1.setCell ⟨b, 1, none⟩ (.slice (some ⟨g2, 0, none⟩) (L.length + 1) cap2)) := IntsKept.set hb1 (by decide)
  obtain ⟨c2, hc2⟩ : ∃ c, w1.heap[g2]? = some (.cells c 140 (0, 0)) := by
    rcases hown.2 with ⟨hv, _⟩ | ⟨g', cap', cur', hv, _, hh, _⟩
    · cases hv
    · cases hv; exact ⟨cur', hh⟩
  have hne2 : g2 ≠ b := fun e => by subst e; rw [hb1] at hc2; cases hc2
  refine ⟨⟨g2, cap2, vs1 ++ [.slice none 0 0], ?_, ?_, ⟨?_, ?_, ?_, ?_⟩, ?_⟩, hk1.trans hk2⟩
  · rcases hat with e | e
    · cases e; exact hB
    · omega
  · have := blk_set (i := 1) (.slice (some ⟨g2, 0, none⟩) (L.length + 1) cap2) hb1
    rw [this]; simp
  · rw [lvCells_push _ _ _ _ hL.len]
    refine ownsRow_block (ownsRow_base ?_ (Nat.zero_le B)) (fun g hg => Below.heap_setCell _ _ _ _ ?_)
    · simpa [Lvl.none] using hown
    · simp [Value.ownBlock] at hg; subst hg; exact hne2
  · simp [hL.len]
  · intro j hj
    by_cases hjl : j < L.length
    · have e1 : (vs1 ++ [Value.slice none 0 0]).getD j undef = vs1.getD j undef := by simp [List.getD, List.getElem?_append, hL.len, hjl]
      have e2 : (L ++ [Lvl.none]).getD j Lvl.none = L.getD j Lvl.none := by simp [List.getD, List.getElem?_append, hjl]
      rw [e1, e2]
      exact (hL.its j hjl).kept (hk1.trans hk2)
    · have e : j = L.length := by simp at hj; omega
      subst e
      have e1 : (vs1 ++ [Value.slice none 0 0]).getD L.length undef = .slice none 0 0 := by simp [List.getD, ← hL.len]
      have e2 : (L ++ [Lvl.none]).getD L.length Lvl.none = Lvl.none := by simp [List.getD]
      rw [e1, e2]
      exact Ints.nil _
  · intro j hj c hc
    by_cases hjl : j < L.length
    · have e1 : (vs1 ++ [Value.slice none 0 0]).getD j undef = vs1.getD j undef := by simp [List.getD, List.getElem?_append, hL.len, hjl]
      rw [e1] at hc
      exact hL.fp j hjl c hc
    · have e : j = L.length := by simp at hj; omega
      subst e
      have e1 : (vs1 ++ [Value.slice none 0 0]).getD L.length undef = .slice none 0 0 := by simp [List.getD, ← hL.len]
      rw [e1] at hc
      simp [Value.ownBlock] at hc
  · exact (((hbel.alloc hBr _).grown hgrow (by simp; omega) (fun k h => by cases h; exact hB)).setCell hBb _)

/-- A level's list is put in place. -/
theorem items_st {B b k g cap h : Nat} {lo hi : Int} {L : List Lvl} {vs : List Value} {w0 wr w1 : World} {v : Value} {X : List Int} (hB : B ≤ g) (hb : wr.heap[b]? = some (skBlock k g L.length cap lo hi)) (hL : LvAt F wr g cap vs L) (hbel : Below B w0 wr) (hBr : B ≤ wr.heap.size)
    (hb1 : Below wr.heap.size wr w1) (hv : Ints w1 v X) (hF : ∀ b, v.ownBlock = some b → F b) (hh : h < L.length) :
    SkSt F B b k lo hi (setItems L h X) w0 (w1.setCell ⟨g, h * 2, none⟩ v) ∧ IntsKept wr (w1.setCell ⟨g, h * 2, none⟩ v) := by
  have hL1 := hL.below hb1
  have hbw1 : w1.heap[b]? = some (skBlock k g L.length cap lo hi) := (hb1.block b (lt_of_blk hb)).trans hb
  obtain ⟨c, hc⟩ := hL1.blk
  refine ⟨⟨g, cap, _, hB, ?_, hL1.setItems hv hF hh, (hbel.trans (hb1.mono hBr)).setCell hB _⟩, (IntsKept.below hb1).trans (IntsKept.set hc (by decide))⟩
  rw [Below.heap_setCell _ _ _ _ (hL1.ne hbw1 (by decide)), setItems_length]
  exact hbw1
/-- A level's times are put in place. -/
theorem times_st {B b k g cap h t : Nat} {lo hi : Int} {L : List Lvl} {vs : List Value} {w0 wr : World} (hB : B ≤ g) (hb : wr.heap[b]? = some (skBlock k g L.length cap lo hi)) (hL : LvAt F wr g cap vs L) (hbel : Below B w0 wr) (hh : h < L.length) :
    SkSt F B b k lo hi (setTimes L h t) w0 (wr.setCell ⟨g, h * 2 + 1, none⟩ (.int .i64 (t : Int))) ∧ IntsKept wr (wr.setCell ⟨g, h * 2 + 1, none⟩ (.int .i64 (t : Int))) := by
  obtain ⟨c, hc⟩ := hL.blk
  refine ⟨⟨g, cap, _, hB, ?_, hL.setTimes hh, hbel.setCell hB _⟩, IntsKept.set hc (by decide)⟩
  rw [Below.heap_setCell _ _ _ _ (hL.ne hb (by decide)), setTimes_length]
  exact hb

end Go.Proofs.YtklicjbpjigfdabGreat

/- DERIVED. Plain mathematics of what comes in with a weight. -/
namespace Go.Proofs.YtklicjbpjigfdabGreat
open Go.RowKit
variable {F : Nat → Prop}

/-- x comes in with the weight w, from level h on: a step for each bit (at most f). -/
def withFrom (x : Int) : Nat → Nat → Nat → List Lvl → List Lvl
  | 0, _, _, L => L
  | f + 1, w, h, L =>
    if w = 0 then L else
    let L1 := if h = L.length then L ++ [Lvl.none] else L
    let L2 := if w % 2 = 1 then setItems L1 h (jn (L1.getD h Lvl.none).items [x]) else L1
    withFrom x f (w / 2) (h + 1) L2

theorem withFrom_zero (x : Int) (f h : Nat) (L : List Lvl) : withFrom x f 0 h L = L := by cases f <;> simp [withFrom]
/-- The level h is there. -/
def at1 (L : List Lvl) (h : Nat) : List Lvl := if h = L.length then L ++ [Lvl.none] else L
/-- The number comes onto level h, if the bit is there. -/
def bit1 (x : Int) (w : Nat) (L : List Lvl) (h : Nat) : List Lvl := if w % 2 = 1 then setItems L h (jn (L.getD h Lvl.none).items [x]) else L
theorem withFrom_step {x : Int} {f w h : Nat} {L : List Lvl} (hw : 0 < w) : withFrom x (f + 1) w h L = withFrom x f (w / 2) (h + 1) (bit1 x w (at1 L h) h) := by
  rw [withFrom, if_neg (by omega)]; rfl
theorem nsum_snoc (L : List Lvl) : nsum (L ++ [Lvl.none]) = nsum L := by
  induction L with
  | nil => rfl
  | cons l L ih => simp only [List.cons_append, nsum, ih]
theorem at1_nsum (L : List Lvl) (h : Nat) : nsum (at1 L h) = nsum L := by
  unfold at1; split
  · exact nsum_snoc L
  · rfl
theorem setItems_nsum {L : List Lvl} {h : Nat} {X : List Int} (hh : h < L.length) : nsum (setItems L h X) + (L.getD h Lvl.none).items.length = nsum L + X.length := by
  induction L generalizing h with
  | nil => simp at hh
  | cons l L ih =>
    cases h with
    | zero => simp [setItems, nsum]; omega
    | succ h =>
      have := ih (h := h) (by simpa using hh)
      simp only [setItems, List.getD_cons_succ, List.set_cons_succ, nsum] at this ⊢
      omega
theorem bit1_nsum {x : Int} {w h : Nat} {L : List Lvl} (hh : h < L.length) : nsum (bit1 x w L h) ≤ nsum L + 1 := by
  unfold bit1; split
  · have := setItems_nsum (X := jn (L.getD h Lvl.none).items [x]) hh
    rw [jn_length] at this; simp at this; simp; omega
  · omega
theorem bit1_length (x : Int) (w h : Nat) (L : List Lvl) : (bit1 x w L h).length = L.length := by
  unfold bit1; split
  · exact setItems_length _ _ _
  · rfl

/-- A sketch that was just laid into a variable. -/
theorem SkSt.laid {B k g cap : Nat} {lo hi : Int} {vs : List Value} {L : List Lvl} {w w1 : World} (hg : B ≤ g) (hL : LvAt F w1 g cap vs L) (hb : Below B w w1) (hB : B ≤ w1.heap.size) : SkSt F B w1.heap.size k lo hi L w (w1.alloc (skBlock k g L.length cap lo hi)) :=
  ⟨g, cap, vs, hg, heap_alloc_new _ _, hL.below ((Below.refl _ _).alloc (Nat.le_refl _) _), hb.alloc hB _⟩

theorem widen_st (B b k : Nat) (lo hi x y : Int) (L : List Lvl) (w0 w : World) (h : SkSt F B b k lo hi L w0 w) (hB : B ≤ b) (hlen : L.length ≤ 30) (hbd : wsum L ≤ 1099511627776) :
    Calls Tryz.prog 83 #[.pointer (some ⟨b, 0, none⟩), .int .i64 x, .int .i64 y] w fun e w' => e = .returned (.tuple #[]) ∧ SkSt F B b k (widenLo (wsum L) lo x) (widenHi (wsum L) hi y) L w0 w' := by
  obtain ⟨g, cap, vs, h1, h2, h3, h4⟩ := h
  refine (widen_any B b k g cap lo hi x y vs L w h2 hB h3 hlen hbd).mono ?_
  rintro e w' ⟨rfl, r1, r2, r3⟩
  exact ⟨rfl, g, cap, vs, h1, r1, r2, h4.trans r3⟩

end Go.Proofs.YtklicjbpjigfdabGreat

/- DERIVED. Plain mathematics of thinning and settling: what is kept weighs what it weighed. -/
namespace Go.Proofs.YtklicjbpjigfdabGreat
open Go.RowKit
variable {F : Nat → Prop}

theorem setItems_wsum {L : List Lvl} {h : Nat} {X : List Int} (hh : h < L.length) : wsum (setItems L h X) + 2 ^ h * (L.getD h Lvl.none).items.length = wsum L + 2 ^ h * X.length := by
  induction L generalizing h with
  | nil => simp at hh
  | cons l L ih =>
    cases h with
    | zero => simp [setItems, wsum]; omega
    | succ h =>
      have := ih (h := h) (by simpa using hh)
      simp only [setItems, List.getD_cons_succ, List.set_cons_succ, wsum] at this ⊢
      rw [Nat.pow_succ, Nat.mul_right_comm, Nat.mul_right_comm (2 ^ h) 2]
      omega
theorem setTimes_wsum (L : List Lvl) (h t : Nat) : wsum (setTimes L h t) = wsum L := by
  induction L generalizing h with
  | nil => simp [setTimes]
  | cons l L ih =>
    cases h with
    | zero => simp [setTimes, wsum]
    | succ h =>
      have := ih h
      simp only [setTimes, List.getD_cons_succ, List.set_cons_succ, wsum] at this ⊢
      omega
theorem wsum_snoc (L : List Lvl) : wsum (L ++ [Lvl.none]) = wsum L := by
  induction L with
  | nil => rfl
  | cons l L ih => simp only [List.cons_append, wsum, ih]
theorem grow1_wsum (L : List Lvl) (h : Nat) : wsum (grow1 L h) = wsum L := by
  unfold grow1; split
  · exact wsum_snoc L
  · rfl
theorem grow1_length {L : List Lvl} {h : Nat} : (grow1 L h).length = if h + 1 = L.length then L.length + 1 else L.length := by
  unfold grow1; split <;> simp
theorem upOf_length (its : List Int) (c : Bool) : (upOf its c).length = its.length / 2 := by
  unfold upOf
  rw [evens_length, List.length_drop]
  cases c
  · simp; omega
  · simp; omega
theorem thinL_length {L : List Lvl} {h : Nat} {c : Bool} : (thinL L h c).length = if h + 1 = L.length then L.length + 1 else L.length := by
  unfold thinL
  simp only [setItems_length, setTimes_length, grow1_length]
theorem wsum_at {L : List Lvl} {h : Nat} (hh : h < L.length) : 2 ^ h * (L.getD h Lvl.none).items.length ≤ wsum L := by
  induction L generalizing h with
  | nil => simp at hh
  | cons l L ih =>
    cases h with
    | zero => simp [wsum]
    | succ h =>
      have := ih (h := h) (by simpa using hh)
      simp only [wsum, List.getD_cons_succ]
      rw [Nat.pow_succ, Nat.mul_right_comm]
      omega

theorem thinL_wsum {L : List Lvl} {h : Nat} {c : Bool} (hh : h < L.length) : wsum (thinL L h c) = wsum L := by
  have hl : h + 1 < (grow1 L h).length := by rw [grow1_length]; split <;> omega
  have hg : (grow1 L h).getD h Lvl.none = L.getD h Lvl.none := grow1_at hh
  unfold thinL
  simp only []
  generalize hits : (L.getD h Lvl.none).items = its at *
  have e0 := grow1_wsum L h
  generalize grow1 L h = L1 at *
  have e1 := setItems_wsum (L := L1) (h := h) (X := its.take (its.length % 2)) (by omega)
  rw [hg, hits] at e1
  have l2 : (setItems L1 h (its.take (its.length % 2))).length = L1.length := setItems_length _ _ _
  generalize setItems L1 h (its.take (its.length % 2)) = L2 at *
  have e2 := setTimes_wsum L2 h ((L2.getD h Lvl.none).times + 1)
  have l3 : (setTimes L2 h ((L2.getD h Lvl.none).times + 1)).length = L2.length := setTimes_length _ _ _
  generalize setTimes L2 h ((L2.getD h Lvl.none).times + 1) = L3 at *
  have e3 := setItems_wsum (L := L3) (h := h + 1) (X := jn (L3.getD (h + 1) Lvl.none).items (upOf its c)) (by omega)
  rw [jn_length, upOf_length, Nat.mul_add, List.length_take] at *
  have e4 : 2 ^ (h + 1) * (its.length / 2) + 2 ^ h * (its.length % 2) = 2 ^ h * its.length := by
    rw [Nat.pow_succ, Nat.mul_assoc, ← Nat.mul_add, Nat.div_add_mod]
  have e5 : min (its.length % 2) its.length = its.length % 2 := Nat.min_eq_left (Nat.mod_le _ _)
  rw [e5] at e1
  omega

theorem setItems_getD {L : List Lvl} {h : Nat} {X : List Int} (hh : h < L.length) : ((setItems L h X).getD h Lvl.none).items = X := by simp [setItems, List.getD, hh]

theorem thinL_times {L : List Lvl} {h j : Nat} {c : Bool} (hh : h < L.length) : ((thinL L h c).getD j Lvl.none).times = (L.getD j Lvl.none).times + (if j = h then 1 else 0) := by
  have hl : h + 1 < (grow1 L h).length := by rw [grow1_length]; split <;> omega
  have hg : ∀ j, ((grow1 L h).getD j Lvl.none).times = (L.getD j Lvl.none).times := by
    intro j
    by_cases hj : j < L.length
    · rw [grow1_at hj]
    · unfold grow1
      split
      · by_cases e : j = L.length
        · subst e; simp [List.getD, Lvl.none]
        · simp [List.getD, hj]; rw [List.getElem?_eq_none (by simp; omega)]; rfl
      · rfl
  unfold thinL
  simp only []
  rw [setItems_times]
  by_cases e : j = h
  · subst e
    have : ((setTimes (setItems (grow1 L j) j ((L.getD j Lvl.none).items.take ((L.getD j Lvl.none).items.length % 2))) j (((setItems (grow1 L j) j ((L.getD j Lvl.none).items.take ((L.getD j Lvl.none).items.length % 2))).getD j Lvl.none).times + 1)).getD j Lvl.none).times = ((setItems (grow1 L j) j ((L.getD j Lvl.none).items.take ((L.getD j Lvl.none).items.length % 2))).getD j Lvl.none).times + 1 := by
      simp only [setTimes, List.getD]
      rw [List.getElem?_set_self (by rw [setItems_length]; omega)]
      rfl
    rw [this, setItems_times, hg]; simp
  · have : ∀ M t, ((setTimes M h t).getD j Lvl.none) = M.getD j Lvl.none := by
      intro M t; simp [setTimes, List.getD, Ne.symm e]
    rw [this, setItems_times, hg]; simp [e]

/-- The level to be thinned, of levels alone. -/
def toThinL (k : Nat) (L : List Lvl) : Option Nat := if nsum L ≤ capSum k L.length then Option.none else crowd k L.length 0 L
theorem toThin_eq (k : Nat) (L : List Lvl) (lo hi : Int) : Sk.toThin ⟨k, L, lo, hi⟩ = toThinL k L := rfl

theorem crowd_some {k n : Nat} : ∀ {h : Nat} {L : List Lvl} {r : Nat}, crowd k n h L = some r → h ≤ r ∧ r < h + L.length ∧ capOf k (n - 1 - r) < (L.getD (r - h) Lvl.none).items.length := by
  intro h L
  induction L generalizing h with
  | nil => intro r hr; simp [crowd] at hr
  | cons l L ih =>
    intro r hr
    rw [crowd] at hr
    split at hr
    · cases hr
      refine ⟨Nat.le_refl _, by simp, ?_⟩
      simpa using ‹_›
    · obtain ⟨h1, h2, h3⟩ := ih hr
      refine ⟨by omega, by simp; omega, ?_⟩
      rw [show r - h = (r - (h + 1)) + 1 by omega]
      simpa using h3
theorem toThinL_some {k : Nat} {L : List Lvl} {r : Nat} (h : toThinL k L = some r) : r < L.length ∧ 3 ≤ (L.getD r Lvl.none).items.length ∧ capOf k (L.length - 1 - r) < (L.getD r Lvl.none).items.length := by
  unfold toThinL at h
  split at h
  · cases h
  · obtain ⟨_, h2, h3⟩ := crowd_some h
    have := capOf_ge k (L.length - 1 - r)
    simp at h2 h3
    exact ⟨h2, by simp; omega, by simpa using h3⟩

/-- Settled by the first of the coins: the levels, and how many coins were used; none: too few. -/
def settle (k : Nat) : List Bool → Nat → List Lvl → Option (List Lvl × Nat)
  | [], u, L => match toThinL k L with
    | Option.none => some (L, u)
    | some _ => Option.none
  | c :: cs, u, L => match toThinL k L with
    | Option.none => some (L, u)
    | some h => settle k cs (u + 1) (thinL L h c)

theorem settle_done {k : Nat} {cs : List Bool} {u : Nat} {L : List Lvl} (h : toThinL k L = Option.none) : settle k cs u L = some (L, u) := by
  cases cs <;> simp [settle, h]
theorem settle_short {k u : Nat} {L : List Lvl} {h : Nat} (hh : toThinL k L = some h) : settle k [] u L = Option.none := by simp [settle, hh]
theorem settle_step {k u : Nat} {L : List Lvl} {h : Nat} {c : Bool} {cs : List Bool} (hh : toThinL k L = some h) : settle k (c :: cs) u L = settle k cs (u + 1) (thinL L h c) := by simp [settle, hh]

/-- A thinning makes no level too many: what is thinned weighs at least 3 times 2^h. -/
theorem thinL_len {L : List Lvl} {h k : Nat} {c : Bool} (ht : toThinL k L = some h) (hw : wsum L ≤ 268435456) (hl : L.length ≤ 29) : (thinL L h c).length ≤ 29 := by
  obtain ⟨h1, h2, _⟩ := toThinL_some ht
  have h3 := wsum_at h1
  rw [thinL_length]
  split
  · rename_i e
    by_cases hb : h ≤ 27
    · omega
    · have hp : 2 ^ 28 ≤ 2 ^ h := pow2_le (by omega)
      have := Nat.mul_le_mul hp h2
      omega
  · exact hl

end Go.Proofs.YtklicjbpjigfdabGreat

/- DERIVED. Plain mathematics of what comes in with a weight: weight, length, times. -/
namespace Go.Proofs.YtklicjbpjigfdabGreat
open Go.RowKit

theorem at1_wsum (L : List Lvl) (h : Nat) : wsum (at1 L h) = wsum L := by
  unfold at1; split
  · exact wsum_snoc L
  · rfl
theorem at1_length {L : List Lvl} {h : Nat} : (at1 L h).length = if h = L.length then L.length + 1 else L.length := by
  unfold at1; split <;> simp
theorem at1_times {L : List Lvl} {h j : Nat} : ((at1 L h).getD j Lvl.none).times = (L.getD j Lvl.none).times := by
  unfold at1
  split
  · by_cases hj : j < L.length
    · simp [List.getD, List.getElem?_append, hj]
    · by_cases e : j = L.length
      · subst e; simp [List.getD, Lvl.none]
      · simp [List.getD, hj]; rw [List.getElem?_eq_none (by simp; omega)]; rfl
  · rfl
theorem bit1_times {x : Int} {w h j : Nat} {L : List Lvl} : ((bit1 x w L h).getD j Lvl.none).times = (L.getD j Lvl.none).times := by
  unfold bit1; split
  · exact setItems_times
  · rfl
theorem bit1_wsum {x : Int} {w h : Nat} {L : List Lvl} (hh : h < L.length) : wsum (bit1 x w L h) = wsum L + 2 ^ h * (w % 2) := by
  unfold bit1
  split
  · rename_i e
    have := setItems_wsum (X := jn (L.getD h Lvl.none).items [x]) hh
    rw [jn_length, Nat.mul_add] at this
    rw [e]
    simp at this ⊢
    omega
  · rename_i e
    have : w % 2 = 0 := by omega
    rw [this]; simp

theorem withFrom_wsum {x : Int} : ∀ {f w h : Nat} {L : List Lvl}, w < 2 ^ f → h ≤ L.length → wsum (withFrom x f w h L) = wsum L + 2 ^ h * w := by
  intro f
  induction f with
  | zero => intro w h L hw hh; simp at hw; subst hw; simp [withFrom]
  | succ f ih =>
    intro w h L hw hh
    by_cases h0 : w = 0
    · subst h0; rw [withFrom_zero]; simp
    · have hl : h < (at1 L h).length := by rw [at1_length]; split <;> omega
      rw [withFrom_step (by omega), ih (by rw [Nat.pow_succ] at hw; omega) (by rw [bit1_length]; omega), bit1_wsum hl, at1_wsum, Nat.pow_succ, Nat.add_assoc, Nat.mul_assoc, ← Nat.mul_add]
      congr 2
      omega
theorem withFrom_length {x : Int} : ∀ {f w h n : Nat} {L : List Lvl}, w < 2 ^ f → h ≤ L.length → L.length ≤ n → h + f ≤ n → (withFrom x f w h L).length ≤ n := by
  intro f
  induction f with
  | zero => intro w h n L hw hh hn hf; simpa [withFrom] using hn
  | succ f ih =>
    intro w h n L hw hh hn hf
    by_cases h0 : w = 0
    · subst h0; rw [withFrom_zero]; exact hn
    · have hl : h < (at1 L h).length := by rw [at1_length]; split <;> omega
      have hl2 : (at1 L h).length ≤ n := by rw [at1_length]; split <;> omega
      rw [withFrom_step (by omega)]
      exact ih (by rw [Nat.pow_succ] at hw; omega) (by rw [bit1_length]; omega) (by rw [bit1_length]; exact hl2) (by omega)
theorem withFrom_times {x : Int} : ∀ {f w h j : Nat} {L : List Lvl}, ((withFrom x f w h L).getD j Lvl.none).times = (L.getD j Lvl.none).times := by
  intro f
  induction f with
  | zero => intro w h j L; rfl
  | succ f ih =>
    intro w h j L
    by_cases h0 : w = 0
    · subst h0; rw [withFrom_zero]
    · rw [withFrom_step (by omega), ih, bit1_times, at1_times]

end Go.Proofs.YtklicjbpjigfdabGreat
