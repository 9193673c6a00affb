/- DERIVED. Plain mathematics of what comes in with a weight. -/
import Derived.Test.YtklicjbpjigfdabThinP
namespace Go.Proofs.Ytklicjbpjigfdab
open Go.RowKit
variable {F : Nat → Prop}

/-- x comes in with the weight w, from level h on: a step for each bit (at most f). -/
def withFrom (x : Int) : Nat → Nat → Nat → List Lvl → List Lvl
  | 0, _, _, L => L
  | f + 1, w, h, L =>
    if w = 0 then L else
    let L1 := if h = L.length then L ++ [Lvl.none] else L
    let L2 := if w % 2 = 1 then setItems L1 h (jn (L1.getD h Lvl.none).items [x]) else L1
    withFrom x f (w / 2) (h + 1) L2

theorem withFrom_zero (x : Int) (f h : Nat) (L : List Lvl) : withFrom x f 0 h L = L := by cases f <;> simp [withFrom]
/-- The level h is there. -/
def at1 (L : List Lvl) (h : Nat) : List Lvl := if h = L.length then L ++ [Lvl.none] else L
/-- The number comes onto level h, if the bit is there. -/
def bit1 (x : Int) (w : Nat) (L : List Lvl) (h : Nat) : List Lvl := if w % 2 = 1 then setItems L h (jn (L.getD h Lvl.none).items [x]) else L
theorem withFrom_step {x : Int} {f w h : Nat} {L : List Lvl} (hw : 0 < w) : withFrom x (f + 1) w h L = withFrom x f (w / 2) (h + 1) (bit1 x w (at1 L h) h) := by
  rw [withFrom, if_neg (by omega)]; rfl
theorem nsum_snoc (L : List Lvl) : nsum (L ++ [Lvl.none]) = nsum L := by
  induction L with
  | nil => rfl
  | cons l L ih => simp only [List.cons_append, nsum, ih]
theorem at1_nsum (L : List Lvl) (h : Nat) : nsum (at1 L h) = nsum L := by
  unfold at1; split
  · exact nsum_snoc L
  · rfl
theorem setItems_nsum {L : List Lvl} {h : Nat} {X : List Int} (hh : h < L.length) : nsum (setItems L h X) + (L.getD h Lvl.none).items.length = nsum L + X.length := by
  induction L generalizing h with
  | nil => simp at hh
  | cons l L ih =>
    cases h with
    | zero => simp [setItems, nsum]; omega
    | succ h =>
      have := ih (h := h) (by simpa using hh)
      simp only [setItems, List.getD_cons_succ, List.set_cons_succ, nsum] at this ⊢
      omega
theorem bit1_nsum {x : Int} {w h : Nat} {L : List Lvl} (hh : h < L.length) : nsum (bit1 x w L h) ≤ nsum L + 1 := by
  unfold bit1; split
  · have := setItems_nsum (X := jn (L.getD h Lvl.none).items [x]) hh
    rw [jn_length] at this; simp at this; simp; omega
  · omega
theorem bit1_length (x : Int) (w h : Nat) (L : List Lvl) : (bit1 x w L h).length = L.length := by
  unfold bit1; split
  · exact setItems_length _ _ _
  · rfl

/-- A sketch that was just laid into a variable. -/
theorem SkSt.laid {B k g cap : Nat} {lo hi : Int} {vs : List Value} {L : List Lvl} {w w1 : World} (hg : B ≤ g) (hL : LvAt F w1 g cap vs L) (hb : Below B w w1) (hB : B ≤ w1.heap.size) : SkSt F B w1.heap.size k lo hi L w (w1.alloc (skBlock k g L.length cap lo hi)) :=
  ⟨g, cap, vs, hg, heap_alloc_new _ _, hL.below ((Below.refl _ _).alloc (Nat.le_refl _) _), hb.alloc hB _⟩

theorem widen_st (B b k : Nat) (lo hi x y : Int) (L : List Lvl) (w0 w : World) (h : SkSt F B b k lo hi L w0 w) (hB : B ≤ b) (hlen : L.length ≤ 30) (hbd : wsum L ≤ 1099511627776) :
    Calls Try.prog 100 #[.pointer (some ⟨b, 0, none⟩), .int .i64 x, .int .i64 y] w fun e w' => e = .returned (.tuple #[]) ∧ SkSt F B b k (widenLo (wsum L) lo x) (widenHi (wsum L) hi y) L w0 w' := by
  obtain ⟨g, cap, vs, h1, h2, h3, h4⟩ := h
  refine (widen_any B b k g cap lo hi x y vs L w h2 hB h3 hlen hbd).mono ?_
  rintro e w' ⟨rfl, r1, r2, r3⟩
  exact ⟨rfl, g, cap, vs, h1, r1, r2, h4.trans r3⟩

end Go.Proofs.Ytklicjbpjigfdab
