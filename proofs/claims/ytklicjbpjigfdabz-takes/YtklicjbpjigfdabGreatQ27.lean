/- DERIVED. Plain mathematics of the document's own reading: it takes just the texts that the program takes, and says of them the same. -/
import Derived.Test.YtklicjbpjigfdabGreatQ19
import Derived.Test.YtklicjbpjigfdabGreatQ12
import Derived.Test.YtklicjbpjigfdabGreatQ9
import Derived.Test.YtklicjbpjigfdabGreatQ13
import Derived.Deep.QuietTactic
import Derived.BigQuiet
import Derived.WalkSmall
import Derived.Test.YtklicjbpjigfdabGreatQ20
import Derived.Deep.Cut
import Derived.Deep.CutRange
namespace Go.Proofs.YtklicjbpjigfdabGreat
open Go.RowKit
set_option linter.unusedVariables false

/-- The numbers in rising order. -/
def srtL : List Int → List Int
  | [] => []
  | x :: xs => jn [x] (srtL xs)
theorem srtL_perm : ∀ xs, (srtL xs).Perm xs
  | [] => List.Perm.nil
  | x :: xs => (jn_perm (srtL xs) [x]).trans (by simpa using (srtL_perm xs).cons x)
theorem srtL_srt : ∀ xs, Srt (srtL xs)
  | [] => List.Pairwise.nil
  | x :: xs => srt_jn (List.pairwise_singleton _ _) (srtL_srt xs)
theorem srtL_id {xs : List Int} (h : Srt xs) : srtL xs = xs := List.Perm.eq_of_pairwise (le := (· ≤ ·)) (fun a b _ _ x y => Int.le_antisymm x y) (srtL_srt xs) h (srtL_perm xs)
theorem srtL_length (xs : List Int) : (srtL xs).length = xs.length := (srtL_perm xs).length_eq
def srtV (L : List Lvl) : List Lvl := L.map fun l => { items := srtL l.items, times := l.times }
def srtS (s : Sk) : Sk := { k := s.k, lv := srtV s.lv, lo := s.lo, hi := s.hi }
theorem srtV_length (L : List Lvl) : (srtV L).length = L.length := by simp [srtV]
theorem srtV_at (L : List Lvl) (j : Nat) : (srtV L).getD j Lvl.none = { items := srtL (L.getD j Lvl.none).items, times := (L.getD j Lvl.none).times } := by
  unfold srtV
  rw [List.getD_eq_getElem?_getD, List.getD_eq_getElem?_getD, List.getElem?_map]
  cases L[j]? with
  | none => rfl
  | some l => rfl
theorem srtV_nsum : ∀ L : List Lvl, nsum (srtV L) = nsum L
  | [] => rfl
  | l :: L => by
    have := srtV_nsum L
    simp only [srtV, List.map_cons, nsum, srtL_length] at *
    omega
theorem srtV_wsum : ∀ L : List Lvl, wsum (srtV L) = wsum L
  | [] => rfl
  | l :: L => by
    have := srtV_wsum L
    simp only [srtV, List.map_cons, wsum, srtL_length] at *
    omega
theorem srtV_times (L : List Lvl) : timesN (srtV L) = timesN L := by simp [srtV, timesN, Function.comp_def]
theorem srtV_ok (L : List Lvl) : LvOk (itemsAll (srtV L)) (srtV L) := fun l hl => by
  obtain ⟨j, hj, e⟩ := List.getElem_of_mem hl
  refine ⟨?_, fun x hx => mem_itemsAll.2 ⟨j, hj, by simp [List.getD, hj, e, hx]⟩⟩
  obtain ⟨l0, _, rfl⟩ := List.mem_map.1 hl
  exact srtL_srt _
theorem srtS_fits {s : Sk} (h : SkFits s) : SkFits (srtS s) := by
  refine ⟨h.k, by show (srtV s.lv).length < 256; rw [srtV_length]; exact h.n, fun l hl => ?_, h.lo, h.hi, fun e => h.none (by rwa [show (srtS s).lv = srtV s.lv from rfl, srtV_wsum] at e)⟩
  obtain ⟨l0, h0, rfl⟩ := List.mem_map.1 hl
  obtain ⟨a, b, c⟩ := h.lv l0 h0
  exact ⟨by show (srtL l0.items).length < 256; rw [srtL_length]; exact a, b, fun x hx => c x ((srtL_perm _).mem_iff.1 hx)⟩
theorem srtS_of {t : List Nat} (hb : ∀ x ∈ t, x < 256) (e : writeB (srtS (toldS t)) = t) : srtS (toldS t) = toldS t := by
  have := told_write (srtS_fits (toldS_fits hb))
  rw [e] at this
  exact this.symm
theorem srtV_id {L : List Lvl} (h : ∀ l ∈ L, Srt l.items) : srtV L = L := by
  unfold srtV
  conv => rhs; rw [← List.map_id L]
  refine List.map_congr_left fun l hl => ?_
  rw [srtL_id (h l hl)]
  rfl
theorem srtV_srt {L : List Lvl} (e : srtV L = L) : ∀ l ∈ L, Srt l.items := fun l hl => by
  rw [← e] at hl
  obtain ⟨l0, _, rfl⟩ := List.mem_map.1 hl
  exact srtL_srt _

/-- The items, level by level. -/
def bagL : Nat → List Lvl → List (Int × Nat)
  | _, [] => []
  | h, l :: L => l.items.map (fun x => (x, h)) ++ bagL (h + 1) L
theorem lvOf_map (xs : List Int) (h j : Nat) : lvOf (xs.map fun x => (x, h)) j = if h = j then xs else [] := by
  induction xs with
  | nil => simp [lvOf_nil]
  | cons x xs ih =>
    rw [List.map_cons, lvOf_cons, ih]
    split
    · simp
    · simp
theorem bagL_lvOf : ∀ (L : List Lvl) (h j : Nat), lvOf (bagL h L) j = if j < h then [] else (L.getD (j - h) Lvl.none).items
  | [], h, j => by simp [bagL, lvOf_nil, Lvl.none]
  | l :: L, h, j => by
    rw [bagL, lvOf_append, lvOf_map, bagL_lvOf L (h + 1) j]
    by_cases h1 : h = j
    · subst h1
      rw [if_pos rfl, if_pos (by omega), if_neg (by omega)]
      simp
    · by_cases h2 : j < h
      · rw [if_neg h1, if_pos (by omega), if_pos h2]; rfl
      · rw [if_neg h1, if_neg (by omega), if_neg h2, show j - h = (j - (h + 1)) + 1 by omega]
        simp
theorem bagL_of (L : List Lvl) : BagOf (bagL 0 L) L := fun j => by
  rw [bagL_lvOf, if_neg (by omega), Nat.sub_zero]
theorem bagL_srt (L : List Lvl) : BagOf (bagL 0 L) (srtV L) := fun j => by
  rw [srtV_at]
  exact (bagL_of L j).trans (srtL_perm _).symm
theorem bagL_length : ∀ (L : List Lvl) (h : Nat), (bagL h L).length = nsum L
  | [], h => rfl
  | l :: L, h => by simp [bagL, nsum, bagL_length L]
theorem bagL_lt : ∀ (L : List Lvl) (h : Nat), ∀ z ∈ bagL h L, z.2 < h + L.length
  | [], h, z, hz => by simp [bagL] at hz
  | l :: L, h, z, hz => by
    simp only [bagL, List.mem_append, List.mem_map] at hz
    rw [List.length_cons]
    rcases hz with ⟨x, _, rfl⟩ | hz
    · simp only; omega
    · have := bagL_lt L (h + 1) z hz
      omega

/-- The text's length is that of a sketch's. -/
def lenP (t : List Nat) : Prop := 4 ≤ t.length ∧ 1 ≤ t.getD 3 0 ∧ t.getD 3 0 ≤ 29 ∧ 4 + 5 * t.getD 3 0 ≤ t.length ∧ t.length = 4 + 5 * t.getD 3 0 + (if hsum (toldHd (t.getD 3 0) (t.drop 4)) = 0 then 0 else 16) + 8 * hsum (toldHd (t.getD 3 0) (t.drop 4)) + 2
/-- Has enough gone up? As the document says it. -/
def goneUp (k : Nat) (L : List Lvl) (h : Nat) : Prop := (L.getD h Lvl.none).times ≤ 2 ^ (h + 1) * wsum (L.drop (h + 1)) / (capOf k (L.length - 1 - h) * 2 ^ h)
def standsP (s : Sk) : Prop := 2 ≤ s.k ∧ s.k ≤ 64 ∧ wsum s.lv ≤ 268435456 ∧ nsum s.lv ≤ capSum s.k s.lv.length ∧ (1 < s.lv.length → 0 < (s.lv.getD (s.lv.length - 1) Lvl.none).items.length) ∧ ∀ h, h < s.lv.length → goneUp s.k s.lv h
def endsP (s : Sk) : Prop := (∀ x ∈ itemsAll s.lv, s.lo ≤ x ∧ x ≤ s.hi) ∧ ((∃ l ∈ s.lv, 0 < l.times) ∨ nsum s.lv = 0 ∨ (s.lo ∈ itemsAll s.lv ∧ s.hi ∈ itemsAll s.lv))

theorem timesB_iff (k n : Nat) : ∀ (L : List Lvl) (h : Nat), timesB k n h L = true ↔ ∀ j, j < L.length → (L.getD j Lvl.none).times * 2 ^ (h + j) * capOf k (n - 1 - (h + j)) ≤ 2 ^ (h + j + 1) * wsum (L.drop (j + 1))
  | [], h => by simp [timesB]
  | l :: L, h => by
    rw [timesB, Bool.and_eq_true, decide_eq_true_eq, timesB_iff k n L (h + 1)]
    constructor
    · rintro ⟨h1, h2⟩ j hj
      cases j with
      | zero => simpa using h1
      | succ j =>
        have := h2 j (by simpa using hj)
        rw [show h + 1 + j = h + (j + 1) by omega] at this
        simpa using this
    · intro h0
      refine ⟨by simpa using h0 0 (by simp), fun j hj => ?_⟩
      have := h0 (j + 1) (by simpa using hj)
      rw [show h + (j + 1) = h + 1 + j by omega] at this
      simpa using this
theorem goneUp_iff (k : Nat) (L : List Lvl) : (∀ h, h < L.length → goneUp k L h) ↔ timesB k L.length 0 L = true := by
  rw [timesB_iff]
  have e : ∀ h, goneUp k L h ↔ (L.getD h Lvl.none).times * 2 ^ (0 + h) * capOf k (L.length - 1 - (0 + h)) ≤ 2 ^ (0 + h + 1) * wsum (L.drop (h + 1)) := fun h => by
    unfold goneUp
    have hc := capOf_ge k (L.length - 1 - h)
    have hp : 0 < 2 ^ h := Nat.pow_pos (by decide)
    rw [Nat.le_div_iff_mul_le (Nat.mul_pos (by omega) hp), Nat.zero_add, Nat.mul_assoc, Nat.mul_comm (2 ^ h) (capOf k _)]
  exact ⟨fun h j hj => (e j).1 (h j hj), fun h j hj => (e j).2 (h j hj)⟩
theorem hasIt_iff (x : Int) (L : List Lvl) : hasIt x L = true ↔ x ∈ itemsAll L := by
  unfold hasIt
  rw [List.any_eq_true, mem_itemsAll]
  constructor
  · rintro ⟨l, hl, h⟩
    rw [List.any_eq_true] at h
    obtain ⟨y, hy, e⟩ := h
    obtain ⟨j, hj, e2⟩ := List.getElem_of_mem hl
    have : y = x := by simpa using e
    subst this
    exact ⟨j, hj, by simp [List.getD, hj, e2, hy]⟩
  · rintro ⟨j, hj, h⟩
    refine ⟨L.getD j Lvl.none, ?_, ?_⟩
    · rw [List.getD_eq_getElem?_getD, List.getElem?_eq_getElem hj]; exact List.getElem_mem hj
    · rw [List.any_eq_true]; exact ⟨x, h, by simp⟩
theorem thinnedB_iff (L : List Lvl) : thinnedB L = true ↔ ∃ l ∈ L, 0 < l.times := by
  unfold thinnedB
  rw [List.any_eq_true]
  simp only [decide_eq_true_eq]
theorem lvAll_iff (lo hi : Int) (L : List Lvl) : L.all (lvB lo hi) = true ↔ (∀ x ∈ itemsAll L, lo ≤ x ∧ x ≤ hi) ∧ ∀ l ∈ L, risesB l.items = true := by
  rw [List.all_eq_true]
  constructor
  · intro h
    refine ⟨fun x hx => ?_, fun l hl => ?_⟩
    · obtain ⟨j, hj, hx⟩ := mem_itemsAll.1 hx
      have hm : L.getD j Lvl.none ∈ L := by
        rw [List.getD_eq_getElem?_getD, List.getElem?_eq_getElem hj]; exact List.getElem_mem hj
      have := h _ hm
      unfold lvB at this
      rw [Bool.and_eq_true, List.all_eq_true] at this
      have := this.1 x hx
      simpa only [Bool.and_eq_true, decide_eq_true_eq] using this
    · have := h l hl
      unfold lvB at this
      rw [Bool.and_eq_true] at this
      exact this.2
  · rintro ⟨h1, h2⟩ l hl
    unfold lvB
    rw [Bool.and_eq_true, List.all_eq_true]
    refine ⟨fun x hx => ?_, h2 l hl⟩
    obtain ⟨j, hj, e⟩ := List.getElem_of_mem hl
    have := h1 x (mem_itemsAll.2 ⟨j, hj, by simp [List.getD, hj, e, hx]⟩)
    simpa only [Bool.and_eq_true, decide_eq_true_eq] using this
theorem srt_rises : ∀ {l : List Int}, Srt l → risesB l = true
  | [], _ => rfl
  | [x], _ => rfl
  | x :: y :: r, h => by
    have h' := List.pairwise_cons.1 h
    rw [risesB, Bool.and_eq_true, decide_eq_true_eq]
    exact ⟨h'.1 y (by simp), srt_rises h'.2⟩
theorem soundB_iff {s : Sk} (h1 : 1 ≤ s.lv.length) (h2 : s.lv.length ≤ 29) (h3 : ∀ l ∈ s.lv, Srt l.items) : soundB s = true ↔ standsP s ∧ endsP s := by
  unfold soundB
  simp only [Bool.and_eq_true]
  rw [shapeB_iff, lvAll_iff, ← goneUp_iff]
  unfold endsOK standsP endsP
  rw [Bool.or_eq_true, Bool.or_eq_true, Bool.and_eq_true, decide_eq_true_eq, hasIt_iff, hasIt_iff, thinnedB_iff]
  constructor
  · rintro ⟨⟨a1, a2, a3, a4, a5, a6, a7⟩, b, ⟨c, _⟩, d⟩
    refine ⟨⟨a1, a2, a7, a6, a5, b⟩, c, ?_⟩
    rcases d with (d | d) | d
    · exact .inr (.inl d)
    · exact .inl d
    · exact .inr (.inr d)
  · rintro ⟨⟨a1, a2, a7, a6, a5, b⟩, c, d⟩
    refine ⟨⟨a1, a2, h1, h2, a5, a6, a7⟩, b, ⟨c, fun l hl => srt_rises (h3 l hl)⟩, ?_⟩
    rcases d with d | d | d
    · exact .inl (.inr d)
    · exact .inl (.inl d)
    · exact .inr d

theorem leV_one (t : List Nat) (i : Nat) : leV ((t.drop i).take 1) = t.getD i 0 := by
  rw [List.getD_eq_getElem?_getD]
  by_cases h : i < t.length
  · rw [List.drop_eq_getElem_cons h, List.getElem?_eq_getElem h, List.take_succ_cons, List.take_zero, leV, leV]
    simp
  · rw [List.drop_eq_nil_of_le (by omega), List.getElem?_eq_none (by omega)]
    simp [leV]
/-- What a text says, place by place. -/
theorem toldS_eq (t : List Nat) : toldS t = toldR (t.getD 2 0) (toldHd (t.getD 3 0) (t.drop 4)) (t.drop (4 + 5 * t.getD 3 0)) := by
  unfold toldS
  simp only [List.drop_drop, Nat.reduceAdd, leV_one]
theorem toldR_len (k : Nat) (hs : List (Nat × Nat)) (r : List Nat) : (toldR k hs r).lv.length = hs.length := by
  unfold toldR; split <;> simp [toldLv_length]
theorem toldR_nsum (k : Nat) (hs : List (Nat × Nat)) (r : List Nat) : nsum (toldR k hs r).lv = hsum hs := by
  unfold toldR; split <;> simp [nsum_toldLv]
theorem toldS_len (t : List Nat) : (toldS t).lv.length = t.getD 3 0 := by rw [toldS_eq, toldR_len, toldHd_length]
theorem toldS_nsum (t : List Nat) : nsum (toldS t).lv = hsum (toldHd (t.getD 3 0) (t.drop 4)) := by rw [toldS_eq, toldR_nsum]

/-- The document reads what the program reads. -/
theorem read_is {t : List Nat} (hb : ∀ x ∈ t, x < 256) : isText t = true ↔ lenP t ∧ standsP (toldS t) ∧ endsP (toldS t) ∧ writeB (srtS (toldS t)) = t := by
  unfold isText
  rw [Bool.and_eq_true, decide_eq_true_eq]
  constructor
  · rintro ⟨h1, h2⟩
    have hs : 1 ≤ (toldS t).lv.length ∧ (toldS t).lv.length ≤ 29 := by
      have := h1
      unfold soundB at this
      simp only [Bool.and_eq_true] at this
      have := (shapeB_iff _).1 this.1
      exact ⟨this.2.2.1, this.2.2.2.1⟩
    have hr : ∀ l ∈ (toldS t).lv, Srt l.items := fun l hl => by
      have := h1
      unfold soundB at this
      simp only [Bool.and_eq_true] at this
      exact rises_srt (((lvAll_iff _ _ _).1 this.2.2.1).2 l hl)
    obtain ⟨a, b⟩ := (soundB_iff hs.1 hs.2 hr).1 h1
    refine ⟨?_, a, b, ?_⟩
    · have hl := congrArg List.length h2
      rw [writeB_length, bodyB_length, toldS_len, toldS_nsum] at hl
      have hw : (wsum (toldS t).lv = 0) ↔ hsum (toldHd (t.getD 3 0) (t.drop 4)) = 0 := by rw [wsum_zero, toldS_nsum]
      rw [toldS_len] at hs
      unfold lenP
      generalize hsum (toldHd (t.getD 3 0) (t.drop 4)) = m at *
      generalize t.getD 3 0 = n at *
      by_cases h0 : m = 0
      · rw [if_pos (hw.2 h0)] at hl
        rw [if_pos h0]
        omega
      · rw [if_neg (fun e => h0 (hw.1 e))] at hl
        rw [if_neg h0]
        omega
    · have e : srtS (toldS t) = toldS t := by
        unfold srtS; rw [srtV_id hr]
      rw [e]; exact h2
  · rintro ⟨a, b, c, d⟩
    have e := srtS_of hb d
    rw [e] at d
    have e2 : srtV (toldS t).lv = (toldS t).lv := congrArg Sk.lv e
    refine ⟨(soundB_iff ?_ ?_ (srtV_srt e2)).2 ⟨b, c⟩, d⟩
    · rw [toldS_len]; exact a.2.1
    · rw [toldS_len]; exact a.2.2.1

end Go.Proofs.YtklicjbpjigfdabGreat

/- DERIVED. The walks of the document's own bytes: bytesOf, numberAt, upTo, checks. -/
namespace Go.Proofs.YtklicjbpjigfdabGreat
open Go.RowKit
attribute [local go_sem ↓] Go.wp_at_zero Go.wp_at_succ

theorem txt_app (a b : List Nat) : txt a ++ txt b = txt (a ++ b) := by
  apply ByteArray.ext
  simp [txt]
theorem txt_size (a : List Nat) : (txt a).size = a.length := by simp [txt, ByteArray.size]
/-- One byte, as a text. -/
theorem one_txt (w : World) (r : Nat) : (convert 167 9 (.slice (some ⟨w.heap.size, 0, none⟩) 1 1)).run Tryz.prog (w.alloc (.cells #[.int .u8 ((r : Int) % 256)] 5)) = .ok (.string (txt [r % 256])) (w.alloc (.cells #[.int .u8 ((r : Int) % 256)] 5)) := by
  have := run_convert_bytes_back (P := Tryz.prog) (w.alloc (.cells #[.int .u8 ((r : Int) % 256)] 5)) 167 9 5 ⟨w.heap.size, 0, none⟩ 1 [UInt8.ofNat (r % 256)] Tryz.underlying167 Tryz.underlying5 Tryz.underlying9 (fun j hj => by
    have : j = 0 := by simpa using hj
    subst this
    have hc := (blk1 (heap_alloc_new w (.cells #[.int .u8 ((r : Int) % 256)] 5))).1
    rw [Addr.add_lit, Nat.zero_add, hc]
    simp)
  exact this
theorem two_txt (w : World) (a b : Nat) (ha : a < 256) (hb : b < 256) : (convert 167 9 (.slice (some ⟨w.heap.size, 0, none⟩) 2 2)).run Tryz.prog (w.alloc (.cells #[.int .u8 (a : Int), .int .u8 (b : Int)] 5)) = .ok (.string (txt [a, b])) (w.alloc (.cells #[.int .u8 (a : Int), .int .u8 (b : Int)] 5)) := by
  have := run_convert_bytes_back (P := Tryz.prog) (w.alloc (.cells #[.int .u8 (a : Int), .int .u8 (b : Int)] 5)) 167 9 5 ⟨w.heap.size, 0, none⟩ 2 [UInt8.ofNat a, UInt8.ofNat b] Tryz.underlying167 Tryz.underlying5 Tryz.underlying9 (fun j hj => by
    obtain ⟨c0, c1, _⟩ := blk2 (heap_alloc_new w (.cells #[.int .u8 (a : Int), .int .u8 (b : Int)] 5))
    have : j = 0 ∨ j = 1 := by simp at hj; omega
    rcases this with rfl | rfl
    · rw [Addr.add_lit, Nat.zero_add, c0]
      simp
      omega
    · rw [Addr.add_lit, c1]
      simp
      omega)
  exact this

set_option maxHeartbeats 1000000 in
set_option maxRecDepth 100000 in
theorem rbytes_any (x : Int) (n : Nat) (w : World) (hn : n ≤ 8) :
    Calls Tryz.prog 105 #[.int .i64 x, .int .i64 (n : Int)] w fun e w' => e = .returned (.string (txt (leB n (u64 x)))) ∧ Below w.heap.size w w' := by
  have hu := u64_lt x
  generalize hT : leB n (u64 x) = T at *
  have HT := hid hT
  clear hT
  go_enter Tryz.func105, Tryz.ntmps105
  go_wp2_with fail
  go_loopw [5, 6, 7] (fun sr ss si wr => ∃ (j r : Nat) (cs : List Nat), j ≤ n ∧ sr = .int .u64 (r : Int) ∧ ss = .string (txt cs) ∧ si = .int .i64 j ∧ r < 18446744073709551616 ∧ cs.length = j ∧ Hid (cs ++ leB (n - j) r = T) ∧ Hid (Below w.heap.size w wr)) (fun _ _ si _ => n - (intOf si).toNat)
  case atStart => exact ⟨0, u64 x, [], Nat.zero_le _, by rw [wrapU64], rfl, rfl, hu, rfl, HT, Below.refl _ _⟩
  case round =>
    obtain ⟨j, r, cs, hj, rfl, rfl, rfl, hr, hcl, Hc, Hb⟩ := hrel
    by_cases hlt : j < n
    · have HD : Hid ((cs ++ [r % 256]) ++ leB (n - (j + 1)) (r / 256) = T) := by
        have := Hc.out
        rw [show n - j = (n - (j + 1)) + 1 by omega, leB] at this
        unfold Hid
        rw [← this]; simp
      have hcv := one_txt wr r
      have HA := hid (Hb.out.alloc Hb.out.size (.cells #[.int .u8 ((r : Int) % 256)] 5))
      have hz1 : (txt cs).size = j := by rw [txt_size, hcl]
      have hz2 : (txt [r % 256]).size = 1 := txt_size _
      have HTA := hid (txt_app cs [r % 256])
      go_wp2_with fail
      go_roundw
      case rel => exact ⟨j + 1, r / 256, cs ++ [r % 256], by omega, by simp, by rw [HTA.out], by go_num, by omega, by simp; omega, HD, HA⟩
      case measure => simp [intOf]; omega
    · have HE : Hid (cs = T) := by have := Hc.out; rw [show n - j = 0 by omega, leB, List.append_nil] at this; exact this
      go_wp2_with fail
      go_ret
      rw [HE.out]
      exact ⟨rfl, Hb.out⟩

/-- The numbers of a window, the last byte first. -/
theorem leV_window {l : List Nat} {a n j : Nat} (h : a + n ≤ l.length) (hj : j < n) : leV ((l.drop (a + n - (j + 1))).take (j + 1)) = leV ((l.drop (a + n - j)).take j) * 256 + l.getD (a + n - 1 - j) 0 := by
  have hlt : a + n - (j + 1) < l.length := by omega
  rw [List.drop_eq_getElem_cons hlt, List.take_succ_cons, leV, show a + n - (j + 1) + 1 = a + n - j by omega, show a + n - 1 - j = a + n - (j + 1) by omega, List.getD_eq_getElem?_getD, List.getElem?_eq_getElem hlt]
  simp only [Option.getD_some]
  omega
theorem ckA_snoc : ∀ (l : List Nat) (b a : Nat), ckA (l ++ [b]) a = (ckA l a + b) % 256
  | [], b, a => rfl
  | x :: l, b, a => by rw [List.cons_append, ckA, ckA, ckA_snoc l]
theorem ckB_snoc : ∀ (l : List Nat) (b a c : Nat), ckB (l ++ [b]) a c = (ckB l a c + ckA (l ++ [b]) a) % 256
  | [], b, a, c => rfl
  | x :: l, b, a, c => by rw [List.cons_append, ckB, ckB, ckA, ckB_snoc l]
theorem bytes_snoc {t : ByteArray} {j : Nat} (h : j < t.size) : (bytesOf t).take (j + 1) = (bytesOf t).take j ++ [t[j].toNat] := by
  have hl : j < (bytesOf t).length := by rw [bytesOf_length]; exact h
  rw [List.take_succ_eq_append_getElem hl, ← bytesOf_at h]
  simp [List.getD, hl]

set_option maxHeartbeats 1000000 in
theorem rupTo_any (t : ByteArray) (n : Nat) (w : World) (hn : n ≤ t.size) (ht : t.size ≤ 140737488355328) :
    Calls Tryz.prog 122 #[.string t, .int .i64 (n : Int)] w fun e w' => e = .returned (.int .i64 (ckA ((bytesOf t).take n) 0 : Int)) ∧ w' = w := by
  go_enter Tryz.func122, Tryz.ntmps122
  go_wp2_with fail
  go_loop [5, 6] (fun sv si => ∃ j v : Nat, j ≤ n ∧ sv = .int .i64 (v : Int) ∧ si = .int .i64 (j : Int) ∧ v < 256 ∧ Hid (v = ckA ((bytesOf t).take j) 0)) (fun _ si => n - (intOf si).toNat)
  case atStart => exact ⟨0, 0, Nat.zero_le _, rfl, rfl, by decide, rfl⟩
  case round =>
    obtain ⟨j, v, hj, rfl, rfl, hv, Hv⟩ := hrel
    by_cases hlt : j < n
    · have hjt : j < t.size := by omega
      have HS : Hid (ckA ((bytesOf t).take (j + 1)) 0 = (v + t[j].toNat) % 256) := by rw [Hid, bytes_snoc hjt, ckA_snoc, ← Hv.out]
      have hb1 : t[j].toNat < 256 := t[j].toNat_lt
      go_wp2_with fail
      go_round
      case rel => exact ⟨j + 1, (v + t[j].toNat) % 256, by omega, by simp, by go_num, by omega, HS.out.symm⟩
      case measure => simp [intOf]; omega
    · obtain rfl : j = n := by omega
      go_wp2_with fail
      go_ret
      exact ⟨ret_int (by rw [Hv.out]), rfl⟩

set_option maxHeartbeats 1000000 in
set_option maxRecDepth 100000 in
theorem rchecks_any (t : ByteArray) (w : World) (ht : t.size ≤ 140737488355328) :
    Calls Tryz.prog 106 #[.string t] w fun e w' => e = .returned (.string (txt [ckA (bytesOf t) 0, ckB (bytesOf t) 0 0])) ∧ Below w.heap.size w w' := by
  have HU := hid (fun (n : Nat) (hn : n ≤ t.size) => rupTo_any t n w hn ht)
  have HA := hid (ckA_lt (bytesOf t))
  have HBB := hid (ckB_lt (bytesOf t) 0 0 (by decide))
  have HTK : Hid ((bytesOf t).take t.size = bytesOf t) := by rw [Hid, List.take_of_length_le (by rw [bytesOf_length]; exact Nat.le_refl _)]
  go_enter Tryz.func106, Tryz.ntmps106
  go_wp2_with fail
  go_loop [3, 4] (fun sv si => ∃ j v : Nat, j ≤ t.size ∧ sv = .int .i64 (v : Int) ∧ si = .int .i64 ((j : Int) + 1) ∧ v < 256 ∧ Hid (v = ckB ((bytesOf t).take j) 0 0)) (fun _ si => t.size + 1 - (intOf si).toNat)
  case atStart => exact ⟨0, 0, Nat.zero_le _, rfl, rfl, by decide, rfl⟩
  case round =>
    obtain ⟨j, v, hj, rfl, rfl, hv, Hv⟩ := hrel
    by_cases hlt : j < t.size
    · have HS : Hid (ckB ((bytesOf t).take (j + 1)) 0 0 = (v + ckA ((bytesOf t).take (j + 1)) 0) % 256) := by rw [Hid, bytes_snoc hlt, ckB_snoc, ← Hv.out]
      have hck := ckA_lt ((bytesOf t).take (j + 1))
      have HUJ := hid (HU.out (j + 1) hlt)
      generalize ckA ((bytesOf t).take (j + 1)) 0 = cc at *
      have hle : decide ((j : Int) + 1 ≤ (t.size : Int)) = true := decide_eq_true (by omega)
      go_wp2_with fail
      refine (HUJ.out).mono ?_
      rintro e w' ⟨rfl, hw⟩
      obtain rfl := hw.symm
      go_wp2_with fail
      go_round
      case rel => exact ⟨j + 1, (v + cc) % 256, by omega, by simp, by go_num, by omega, HS.out.symm⟩
      case measure => simp [intOf]; omega
    · obtain rfl : j = t.size := by omega
      have hle : decide ((t.size : Int) + 1 ≤ (t.size : Int)) = false := decide_eq_false (by omega)
      have HUJ := hid (HU.out t.size (Nat.le_refl _))
      have HV2 : Hid (v = ckB (bytesOf t) 0 0) := by rw [Hid, Hv.out, HTK.out]
      rw [HTK.out] at HUJ
      have ha := HA.out
      have hcv := two_txt w (ckA (bytesOf t) 0) v ha hv
      have HAL := hid (below_new_al (w := w) (.cells #[.int .u8 (ckA (bytesOf t) 0 : Int), .int .u8 (v : Int)] 5))
      generalize hca : ckA (bytesOf t) 0 = ca at *
      have HCA := hid hca
      clear hca
      go_wp2_with (go_at_call 122; refine HUJ.out.mono ?_; rintro e w' ⟨rfl, hw⟩; obtain rfl := hw.symm)
      go_ret
      exact ⟨by rw [← HV2.out, HCA.out]; rfl, HAL.out⟩

theorem wrap_s64 {N : Nat} (h : N < 18446744073709551616) : wrap64 (N : Int) = s64 N := by
  unfold wrap64 s64
  split
  · rw [show ((N : Int) + 9223372036854775808) % 18446744073709551616 - 9223372036854775808 = (N : Int) by omega]
  · rw [show ((N : Int) + 9223372036854775808) % 18446744073709551616 - 9223372036854775808 = (N : Int) - 18446744073709551616 by omega]

set_option maxHeartbeats 1000000 in
set_option maxRecDepth 100000 in
theorem rnumber_any (t : ByteArray) (a n : Nat) (w : World) (hn : n ≤ 8) (ha : a + n ≤ t.size) (ht : t.size ≤ 140737488355328) :
    Calls Tryz.prog 117 #[.string t, .int .i64 (a : Int), .int .i64 (n : Int)] w fun e w' => e = .returned (.int .i64 (s64 (leV (((bytesOf t).drop a).take n)))) ∧ w' = w := by
  have HAL : Hid (a + n ≤ (bytesOf t).length) := by rw [Hid, bytesOf_length]; exact ha
  go_enter Tryz.func117, Tryz.ntmps117
  go_wp2_with fail
  go_loop [7, 8] (fun sv si => ∃ j v : Nat, j ≤ n ∧ sv = .int .u64 (v : Int) ∧ si = .int .i64 (j : Int) ∧ Hid (v = leV (((bytesOf t).drop (a + n - j)).take j))) (fun _ si => n - (intOf si).toNat)
  case atStart => exact ⟨0, 0, Nat.zero_le _, rfl, rfl, by simp [Hid, leV]⟩
  case round =>
    obtain ⟨j, v, hj, rfl, rfl, Hv⟩ := hrel
    have hvb : leV (((bytesOf t).drop (a + n - j)).take j) < 256 ^ j := leV_take (of_drop (bytesOf_lt t) _) j
    by_cases hlt : j < n
    · have hqt : a + n - 1 - j < t.size := by omega
      have HS : Hid (leV (((bytesOf t).drop (a + n - (j + 1))).take (j + 1)) = v * 256 + t[a + n - 1 - j].toNat) := by
        rw [Hid, leV_window HAL.out hlt, ← Hv.out, bytesOf_at hqt]
      have hb1 : t[a + n - 1 - j].toNat < 256 := t[a + n - 1 - j].toNat_lt
      have hvb2 : v < 72057594037927936 := by
        rw [Hv.out]
        exact Nat.lt_of_lt_of_le hvb (Nat.pow_le_pow_right (n := 256) (by decide) (show j ≤ 7 by omega))
      clear hvb
      go_wp2_with fail
      go_round
      case rel => exact ⟨j + 1, v * 256 + t[a + n - 1 - j].toNat, by omega, by simp, by go_num, HS.out.symm⟩
      case measure => simp [intOf]; omega
    · obtain rfl : j = n := by omega
      have hvb2 : v < 18446744073709551616 := by
        rw [Hv.out]
        exact Nat.lt_of_lt_of_le hvb (Nat.pow_le_pow_right (n := 256) (by decide) (show j ≤ 8 by omega))
      have HE : Hid (leV (((bytesOf t).drop a).take j) = v) := by rw [Hid, Hv.out, show a + j - j = a by omega]
      clear hvb
      go_wp2_with fail
      go_ret
      exact ⟨ret_int (by rw [HE.out]; exact wrap_s64 hvb2), rfl⟩

end Go.Proofs.YtklicjbpjigfdabGreat

/- DERIVED. The walk of the document's own Text. -/
namespace Go.Proofs.YtklicjbpjigfdabGreat
open Go.RowKit
attribute [local go_sem ↓] Go.wp_at_zero Go.wp_at_succ

/-- A box at the head of what was made since. -/
def BxB (o : Obj) (w wr : World) : Prop := Below (w.alloc o).heap.size (w.alloc o) wr
theorem BxB.first (o : Obj) (w : World) : BxB o w (w.alloc o) := Below.refl _ _
theorem BxB.next {o : Obj} {w wr w' : World} (h : BxB o w wr) (k : Below wr.heap.size wr w') : BxB o w w' := Below.trans h (k.mono (Below.size h))
theorem BxB.box {o : Obj} {w wr : World} (h : BxB o w wr) : wr.heap[w.heap.size]? = some o := (Below.block h _ (by simp)).trans (heap_alloc_new w o)
theorem BxB.bel {o : Obj} {w wr : World} (h : BxB o w wr) : Below w.heap.size w wr := (below_new_al o).trans (Below.mono h (by simp))

theorem hdrB_len (L : List Lvl) : (hdrB L).length = 5 * L.length := hdrB_length L
theorem timesN_at (L : List Lvl) (j : Nat) : (nats (timesN L)).getD j 0 = ((L.getD j Lvl.none).times : Int) := by
  unfold nats timesN
  rw [List.getD_eq_getElem?_getD, List.getD_eq_getElem?_getD, List.getElem?_map, List.getElem?_map]
  cases L[j]? with
  | none => rfl
  | some l => rfl
theorem txt_sk (k n : Nat) : (⟨#[83, 75]⟩ : ByteArray) ++ txt [k, n] = txt [83, 75, k, n] := by
  rw [show (⟨#[83, 75]⟩ : ByteArray) = txt [83, 75] from rfl, txt_app]
  rfl

set_option maxHeartbeats 4000000 in
set_option maxRecDepth 100000 in
theorem rtext_any (X : List Int) (k : Nat) (vb vt vk : Value) (lo hi : Int) (sl : Bool) (bag : List (Int × Nat)) (L : List Lvl) (w : World) (hB : BagAt w vb bag) (hT : Ints w vt (nats (timesN L))) (hO : BagOf bag L) (hL : LvOk X L) (hl : bag.length ≤ 100000) (hk : k < 256) (hn : L.length ≤ 30) (htm : ∀ j, (L.getD j Lvl.none).times ≤ 1099511627776) :
    Calls Tryz.prog 81 #[rsVal k vb vt lo hi sl vk] w fun e w' => e = .returned (.string (txt (writeB ⟨k, L, lo, hi⟩))) ∧ Below w.heap.size w w' := by
  obtain ⟨bo, bcap, rfl, hq1, hq2⟩ := hB.form
  obtain ⟨tO, tcap, rfl, hq3⟩ := hT.form
  clear hq1 hq2 hq3
  have htl : (nats (timesN L)).length = L.length := by simp [nats, timesN]
  rw [htl] at hT ⊢
  have hns : nsum L = bag.length := by rw [hO.nsum]
  have hws : wsum L = 0 ↔ bag.length = 0 := by rw [wsum_zero, hns]
  have HON := hid (fun (h : Nat) (w' : World) (hb : Below w.heap.size w w') => ron_any k h (.slice bo bag.length bcap) (.slice tO L.length tcap) vk lo hi sl bag w' (hB.below hb) hl)
  have HSO := hid (fun (h : Nat) (w' : World) (hb : Below w.heap.size w w') => rsorted_any X k h (.slice bo bag.length bcap) (.slice tO L.length tcap) vk lo hi sl bag L w' (hB.below hb) hO hL hl)
  have HBY := hid (fun (x : Int) (n : Nat) (w' : World) (hn : n ≤ 8) => rbytes_any x n w' hn)
  have HCK := hid (fun (t : ByteArray) (w' : World) (ht : t.size ≤ 140737488355328) => rchecks_any t w' ht)
  have HLV : Hid (∀ j, (lvOf bag j).length = (L.getD j Lvl.none).items.length) := fun j => (hO j).length_eq
  have hO' := HLV.out
  have HTT := hid hT
  have HWB : Hid (writeB ⟨k, L, lo, hi⟩ = bodyB ⟨k, L, lo, hi⟩ ++ [ckA (bodyB ⟨k, L, lo, hi⟩) 0, ckB (bodyB ⟨k, L, lo, hi⟩) 0 0]) := writeB_eq _
  have HBD : Hid (bodyB ⟨k, L, lo, hi⟩ = [83, 75, k, L.length] ++ (hdrB L ++ ((if bag.length = 0 then [] else leB 8 (u64 lo) ++ leB 8 (u64 hi)) ++ itemsB L))) := by
    unfold Hid bodyB endsB
    simp only [hws]
    simp [leB, Nat.mod_eq_of_lt hk, Nat.mod_eq_of_lt (show L.length < 256 by omega)]
  have HBL := hid (bodyB_lt ⟨k, L, lo, hi⟩)
  have hblen : (bodyB ⟨k, L, lo, hi⟩).length ≤ 1000000 := by
    rw [bodyB_length]
    simp only [hns]
    split <;> omega
  generalize writeB ⟨k, L, lo, hi⟩ = WB at *
  generalize bodyB ⟨k, L, lo, hi⟩ = BB at *
  generalize hne : L.length = n at *
  have HN := hid hne
  have HIL : Hid ((itemsB L).length = 8 * bag.length) := by rw [Hid, itemsB_length, hns]
  have hcv := two_txt (w.alloc (rsBlk k (.slice bo bag.length bcap) (.slice tO n tcap) lo hi sl vk)) k n hk (by omega)
  rw [show (w.alloc (rsBlk k (.slice bo bag.length bcap) (.slice tO n tcap) lo hi sl vk)).heap.size = w.heap.size + 1 by simp] at hcv
  have HS1 := hid ((BxB.first (rsBlk k (.slice bo bag.length bcap) (.slice tO n tcap) lo hi sl vk) w).next (below_new_al (.cells #[.int .u8 (k : Int), .int .u8 (n : Int)] 5)))
  have HTX := hid (txt_sk k n)
  have hz2 : (txt [k, n]).size = 2 := txt_size _
  generalize hbn : bag.length = m at *
  have HTL : Hid ((nats (timesN L)).length = n) := htl
  have HIT : Hid (∀ j, (L.getD j Lvl.none).items.length ≤ 100000) := fun j => by rw [← hO' j]; exact Nat.le_trans (lvOf_le bag j) (by omega)
  clear hB hT hO hL hne hns hws htl hO'
  go_enter Tryz.func81, Tryz.ntmps81
  go_wp2_with fail
  go_loopw [3, 4] (fun ss si wr => ∃ (j : Nat) (cs : List Nat), j ≤ n ∧ ss = .string (txt cs) ∧ si = .int .i64 j ∧ cs.length = 4 + 5 * j ∧ Hid (cs ++ hdrB (L.drop j) = [83, 75, k, n] ++ hdrB L) ∧ Hid (BxB (rsBlk k (.slice bo m bcap) (.slice tO n tcap) lo hi sl vk) w wr)) (fun _ si _ => n - (intOf si).toNat)
  case atStart => exact ⟨0, [83, 75, k, n], Nat.zero_le _, by rw [HTX.out], rfl, rfl, rfl, HS1⟩
  case round =>
    obtain ⟨j, cs, hj, rfl, rfl, hcl, Hc, Hw⟩ := hrel
    clear HS1 HTX hcv hz2
    obtain ⟨c0, c1, c2, c3, c4, c5, c6, cz⟩ := blk7' Hw.out.box
    have hzz := lt_of_blk' Hw.out.box
    by_cases hlt : j < n
    · have hlt' : j < L.length := by rw [HN.out]; exact hlt
      obtain ⟨g, rfl, hg, ht⟩ := HTT.out.cell (t := j) (by rw [HTL.out]; exact hlt)
      rw [timesN_at] at ht
      have HT0 := hid ht
      have HSJ := hid (hdrB_step hlt')
      have HONJ := hid (HON.out j wr Hw.out.bel)
      have htj := htm j
      rw [HLV.out] at HONJ
      have hmj := HIT.out j
      generalize (L.getD j Lvl.none).items.length = mj at *
      generalize (L.getD j Lvl.none).times = tj at *
      have hz1 : (txt cs).size = 4 + 5 * j := by rw [txt_size, hcl]
      clear ht
      go_wp2_with fail
      refine HONJ.out.mono ?_
      rintro e w2 ⟨rfl, hb2⟩
      have HW2 := hid (Hw.out.next hb2)
      clear hb2 HONJ c0 c1 c2 c3 c4 c5 c6 cz hzz
      go_wp2_with fail
      refine (HBY.out (mj : Int) 1 w2 (by decide)).mono ?_
      rintro e w3 ⟨rfl, hb3⟩
      have HW3 := hid (HW2.out.next hb3)
      clear hb3 HW2
      obtain ⟨c0, c1, c2, c3, c4, c5, c6, cz⟩ := blk7' HW3.out.box
      have hzz := lt_of_blk' HW3.out.box
      have ht3 := (HW3.out.bel.cell (p := ⟨g, j, none⟩) hg).trans HT0.out
      have hz3 : (txt (leB 1 (u64 (mj : Int)))).size = 1 := by rw [txt_size, leB_length]
      have HA1 := hid (txt_app cs (leB 1 (u64 (mj : Int))))
      have hz4 : (txt cs ++ txt (leB 1 (u64 (mj : Int)))).size = 5 + 5 * j := by rw [txt_app, txt_size, List.length_append, leB_length, hcl]; omega
      go_wp2_with fail
      refine (HBY.out (tj : Int) 4 w3 (by decide)).mono ?_
      rintro e w4 ⟨rfl, hb4⟩
      have HW4 := hid (HW3.out.next hb4)
      clear hb4 HW3 c0 c1 c2 c3 c4 c5 c6 cz hzz ht3
      have hz5 : (txt (leB 4 (u64 (tj : Int)))).size = 4 := by rw [txt_size, leB_length]
      have HA2 := hid (txt_app (cs ++ leB 1 (u64 (mj : Int))) (leB 4 (u64 (tj : Int))))
      have HC2 : Hid (((cs ++ leB 1 (u64 (mj : Int))) ++ leB 4 (u64 (tj : Int))) ++ hdrB (L.drop (j + 1)) = [83, 75, k, n] ++ hdrB L) := by
        rw [Hid, ← Hc.out, HSJ.out, u64_nat (n := mj) (by omega), u64_nat (n := tj) (by omega)]
        simp only [List.append_assoc]
      go_wp2_with fail
      go_roundw
      case rel => exact ⟨j + 1, (cs ++ leB 1 (u64 (mj : Int))) ++ leB 4 (u64 (tj : Int)), by omega, by rw [HA1.out, HA2.out], by go_num, by simp [leB_length]; omega, HC2, HW4⟩
      case measure => simp [intOf]; omega
    · obtain rfl : j = n := by omega
      have HE : Hid (cs = [83, 75, k, j] ++ hdrB L) := by
        have := Hc.out
        rw [List.drop_eq_nil_of_le (by rw [HN.out]; omega), hdrB, List.append_nil] at this
        exact this
      clear Hc hlt
      go_upto_if 44 with fail
      go_cut [3] from 41 (fun s3 we => ∃ ds : List Nat, s3 = .string (txt ds) ∧ ds.length ≤ 20 + 5 * j ∧ Hid (ds ++ itemsB L = BB) ∧ Hid (BxB (rsBlk k (.slice bo m bcap) (.slice tO j tcap) lo hi sl vk) w we))
      case first =>
        have hz1 : (txt cs).size = 4 + 5 * j := by rw [txt_size, hcl]
        by_cases hm0 : 0 < m
        · have hm0' : decide ((0 : Int) < (m : Int)) = true := by simp; omega
          have hz3 : (txt (leB 8 (u64 lo))).size = 8 := by rw [txt_size, leB_length]
          have hz4 : (txt cs ++ txt (leB 8 (u64 lo))).size = 12 + 5 * j := by rw [txt_app, txt_size, List.length_append, leB_length, hcl]; omega
          have hz5 : (txt (leB 8 (u64 hi))).size = 8 := by rw [txt_size, leB_length]
          have HA1 := hid (txt_app cs (leB 8 (u64 lo)))
          have HA2 := hid (txt_app (cs ++ leB 8 (u64 lo)) (leB 8 (u64 hi)))
          have HBE : Hid (((cs ++ leB 8 (u64 lo)) ++ leB 8 (u64 hi)) ++ itemsB L = BB) := by
            rw [Hid, HBD.out, HE.out, if_neg (by omega)]
            simp only [List.append_assoc]
          go_wp2_with fail
          refine (HBY.out lo 8 wr (by decide)).mono ?_
          rintro e w5 ⟨rfl, hb5⟩
          have HW5 := hid (Hw.out.next hb5)
          clear hb5 c0 c1 c2 c3 c4 c5 c6 cz hzz
          obtain ⟨c0, c1, c2, c3, c4, c5, c6, cz⟩ := blk7' HW5.out.box
          have hzz := lt_of_blk' HW5.out.box
          go_wp2_with fail
          refine (HBY.out hi 8 w5 (by decide)).mono ?_
          rintro e w6 ⟨rfl, hb6⟩
          have HW6 := hid (HW5.out.next hb6)
          clear hb6 c0 c1 c2 c3 c4 c5 c6 cz hzz
          go_wp2_with fail
          go_meet
          exact ⟨(cs ++ leB 8 (u64 lo)) ++ leB 8 (u64 hi), by rw [HA1.out, HA2.out], by simp [leB_length]; omega, HBE, HW6⟩
        · have hm0' : decide ((0 : Int) < (m : Int)) = false := by simp; omega
          have HBE : Hid (cs ++ itemsB L = BB) := by
            rw [Hid, HBD.out, HE.out, if_pos (by omega)]
            simp only [List.append_assoc, List.nil_append]
          go_wp2_with fail
          go_meet
          exact ⟨cs, rfl, by omega, HBE, Hw⟩
      case rest =>
      obtain ⟨ds, rfl, hdl, Hd, Hwe⟩ := hcut
      clear Hw HE hcl c0 c1 c2 c3 c4 c5 c6 cz hzz
      go_wp2_with fail
      go_loopw [3, 6] (fun ss si wr => ∃ (h : Nat) (es : List Nat), h ≤ j ∧ ss = .string (txt es) ∧ si = .int .i64 h ∧ Hid (es ++ itemsB (L.drop h) = BB) ∧ Hid (BxB (rsBlk k (.slice bo m bcap) (.slice tO j tcap) lo hi sl vk) w wr)) (fun _ si _ => j - (intOf si).toNat)
      case atStart => exact ⟨0, ds, Nat.zero_le _, rfl, rfl, Hd, Hwe⟩
      case round =>
        obtain ⟨h, es, hh, rfl, rfl, He, Hw⟩ := hrel
        clear Hd Hwe
        obtain ⟨c0, c1, c2, c3, c4, c5, c6, cz⟩ := blk7' Hw.out.box
        have hzz := lt_of_blk' Hw.out.box
        by_cases hlt : h < j
        · have hlt' : h < L.length := by rw [HN.out]; exact hlt
          have HSJ := hid (itemsB_step hlt')
          have HSOJ := hid (HSO.out h wr Hw.out.bel)
          generalize (L.getD h Lvl.none).items = its at *
          generalize hil : its.length = il at *
          have HIL2 := hid hil
          clear hil
          go_wp2_with fail
          refine HSOJ.out.mono ?_
          rintro e w2 ⟨g, rfl, hown, hb2⟩
          have HW2 := hid (Hw.out.next hb2)
          have HOW := hid hown
          have hil3 : il ≤ 125000 := by
            have h1 := congrArg List.length He.out
            rw [HSJ.out] at h1
            simp only [List.length_append, numsB_length, HIL2.out] at h1
            omega
          clear hb2 hown HSOJ c0 c1 c2 c3 c4 c5 c6 cz hzz
          go_wp2_with fail
          go_loopw [3, 8] (fun ss si wr => ∃ (i : Nat) (fs : List Nat), i ≤ il ∧ ss = .string (txt fs) ∧ si = .int .i64 i ∧ Hid (fs ++ (numsB (its.drop i) ++ itemsB (L.drop (h + 1))) = BB) ∧ Hid (BxB (rsBlk k (.slice bo m bcap) (.slice tO j tcap) lo hi sl vk) w wr) ∧ Hid (Below w2.heap.size w2 wr)) (fun _ si _ => il - (intOf si).toNat)
          case atStart => exact ⟨0, es, Nat.zero_le _, rfl, rfl, by rw [Hid, List.drop_zero, ← HSJ.out]; exact He.out, HW2, Below.refl _ _⟩
          case round =>
            obtain ⟨i, fs, hi9, rfl, rfl, Hf, Hw', Hk⟩ := hrel
            by_cases hli : i < il
            · have hli' : i < its.length := by rw [HIL2.out]; exact hli
              have hcell : w2.cell? ⟨g, i, none⟩ = some (.int .i64 (its.getD i 0)) := ownsRow_cell HOW.out (by simp [ints, List.getD, hli'])
              have hgz := ownsRow_lt HOW.out (g := g) rfl
              have hcell' := (Hk.out.cell (p := ⟨g, i, none⟩) hgz).trans hcell
              have HST := hid (numsB_step hli')
              generalize its.getD i 0 = x at *
              have hgz' := Nat.lt_of_lt_of_le hgz Hk.out.size
              have hz1 : (txt fs).size ≤ 1000000 := by
                rw [txt_size]
                have h1 := congrArg List.length Hf.out
                simp only [List.length_append] at h1
                omega
              have hz3 : (txt (leB 8 (Go.Proofs.YtklicjbpjigfdabGreat.u64 x))).size = 8 := by rw [txt_size, leB_length]
              have HA1 := hid (txt_app fs (leB 8 (Go.Proofs.YtklicjbpjigfdabGreat.u64 x)))
              have HF2 : Hid ((fs ++ leB 8 (Go.Proofs.YtklicjbpjigfdabGreat.u64 x)) ++ (numsB (its.drop (i + 1)) ++ itemsB (L.drop (h + 1))) = BB) := by
                rw [Hid, ← Hf.out, HST.out]
                simp only [List.append_assoc]
              clear hcell hgz
              go_wp2_with fail
              refine (HBY.out x 8 wr (by decide)).mono ?_
              rintro e w3 ⟨rfl, hb3⟩
              have HW3 := hid (Hw'.out.next hb3)
              have HK3 := hid (Hk.out.trans (hb3.mono Hk.out.size))
              clear hb3
              go_wp2_with fail
              go_roundw
              case rel => exact ⟨i + 1, fs ++ leB 8 (Go.Proofs.YtklicjbpjigfdabGreat.u64 x), by omega, by rw [HA1.out], by go_num, HF2, HW3, HK3⟩
              case measure => simp [intOf]; omega
            · have HF2 : Hid (fs ++ itemsB (L.drop (h + 1)) = BB) := by
                have := Hf.out
                rw [List.drop_eq_nil_of_le (by rw [HIL2.out]; omega), numsB, List.nil_append] at this
                exact this
              go_wp2_with fail
              go_roundw
              case rel => exact ⟨h + 1, fs, by omega, rfl, by go_num, HF2, Hw'⟩
              case measure => simp [intOf]; omega
        · have HE2 : Hid (es = BB) := by
            have := He.out
            rw [List.drop_eq_nil_of_le (by rw [HN.out]; omega), itemsB, List.append_nil] at this
            exact this
          have hz1 : (txt es).size ≤ 1000000 := by rw [txt_size, HE2.out]; exact hblen
          have HCKE := hid (HCK.out (txt es) wr (by omega))
          rw [bytesOf_txt (by rw [HE2.out]; exact HBL.out)] at HCKE
          have hz3 : ∀ a b : Nat, (txt [a, b]).size = 2 := fun a b => txt_size _
          have HFI : Hid (txt es ++ txt [ckA es 0, ckB es 0 0] = txt WB) := by rw [Hid, txt_app, HWB.out, HE2.out]
          have hz4 := hz3 (ckA es 0) (ckB es 0 0)
          go_wp2_with fail
          refine HCKE.out.mono ?_
          rintro e w4 ⟨rfl, hb4⟩
          have HW4 := hid (Hw.out.next hb4).bel
          clear hb4
          go_wp2_with fail
          go_ret
          exact ⟨congrArg _ (congrArg _ HFI.out), HW4.out⟩

end Go.Proofs.YtklicjbpjigfdabGreat

/- DERIVED. The walks of the document's own over, stands, ends. -/
namespace Go.Proofs.YtklicjbpjigfdabGreat
open Go.RowKit
attribute [local go_sem ↓] Go.wp_at_zero Go.wp_at_succ

/-- What the items above a level weigh. -/
def ovr (bag : List (Int × Nat)) (h : Nat) : Nat := ((bag.filter fun z => decide (h < z.2)).map fun z => 2 ^ z.2).sum
theorem ovr_step {bag : List (Int × Nat)} {h j : Nat} (hj : j < bag.length) : ovr (bag.take (j + 1)) h = ovr (bag.take j) h + (if h < (bag.getD j (0, 0)).2 then 2 ^ (bag.getD j (0, 0)).2 else 0) := by
  unfold ovr
  rw [List.take_succ_eq_append_getElem hj, List.filter_append, List.map_append, List.sum_append]
  congr 1
  have e : bag.getD j (0, 0) = bag[j] := by simp [List.getD, hj]
  rw [e]
  by_cases hh : h < bag[j].2
  · simp [hh]
  · simp [hh]
theorem ovr_le (h : Nat) : ∀ bag : List (Int × Nat), ovr bag h ≤ bagW bag
  | [] => Nat.le_refl _
  | z :: bag => by
    have := ovr_le h bag
    unfold ovr bagW at *
    rw [List.filter_cons, List.map_cons, List.sum_cons]
    split
    · rw [List.map_cons, List.sum_cons]
      exact Nat.add_le_add (Nat.le_refl _) this
    · exact Nat.le_trans this (Nat.le_add_left _ _)
theorem ovr_map (xs : List Int) (i h : Nat) : ovr (xs.map fun x => (x, i)) h = if h < i then xs.length * 2 ^ i else 0 := by
  induction xs with
  | nil => simp [ovr]
  | cons x xs ih =>
    unfold ovr at *
    rw [List.map_cons, List.filter_cons]
    by_cases hi : h < i
    · rw [if_pos hi] at ih ⊢
      simp only [hi, decide_true, if_true, List.map_cons, List.sum_cons, List.length_cons, ih]
      rw [Nat.add_mul]; omega
    · rw [if_neg hi] at ih ⊢
      simp only [hi, decide_false, Bool.false_eq_true, if_false, ih]
theorem ovr_append (a b : List (Int × Nat)) (h : Nat) : ovr (a ++ b) h = ovr a h + ovr b h := by simp [ovr]
theorem ovr_bagL : ∀ (L : List Lvl) (i h : Nat), ovr (bagL i L) h = if h < i then 2 ^ i * wsum L else 2 ^ (h + 1) * wsum (L.drop (h + 1 - i))
  | [], i, h => by simp [bagL, ovr, wsum]
  | l :: L, i, h => by
    rw [bagL, ovr_append, ovr_map, ovr_bagL L (i + 1) h]
    by_cases h1 : h < i
    · rw [if_pos h1, if_pos (by omega), if_pos h1, wsum, Nat.pow_succ, Nat.mul_add, Nat.mul_comm _ (2 ^ i), Nat.mul_assoc]
    · rw [if_neg h1, if_neg h1, Nat.zero_add]
      by_cases h2 : h < i + 1
      · obtain rfl : h = i := by omega
        rw [if_pos h2, show h + 1 - h = 0 + 1 by omega]
        simp
      · rw [if_neg h2, show h + 1 - i = (h + 1 - (i + 1)) + 1 by omega, List.drop_succ_cons]
theorem ovr_at (L : List Lvl) (h : Nat) : ovr (bagL 0 L) h = 2 ^ (h + 1) * wsum (L.drop (h + 1)) := by
  rw [ovr_bagL, if_neg (by omega), Nat.sub_zero]

set_option maxHeartbeats 1000000 in
theorem rover_any (k h : Nat) (vb vt vk : Value) (lo hi : Int) (sl : Bool) (bag : List (Int × Nat)) (w : World) (hB : BagAt w vb bag) (hn : bag.length ≤ 100000) (hL : Low bag) :
    Calls Tryz.prog 120 #[rsVal k vb vt lo hi sl vk, .int .i64 (h : Int)] w fun e w' => e = .returned (.int .i64 (ovr bag h : Int)) ∧ Below w.heap.size w w' := by
  obtain ⟨ao, cap, rfl, _, _⟩ := hB.form
  have hbd := bagW_bd hL
  have HB := hid hB
  have HL := hid hL
  have HTL := hid (fun j => Nat.le_trans (ovr_le h (bag.take j)) (bagW_take_le bag j))
  generalize hne : bag.length = n at *
  have HN := hid hne
  clear hB hL hne
  go_enter Tryz.func120, Tryz.ntmps120
  go_wp2_with fail
  have HBX := hid (heap_alloc_new w (rsBlk k (.slice ao n cap) vt lo hi sl vk))
  go_loopw [5, 6] (fun st si wr => ∃ j c : Nat, j ≤ n ∧ si = .int .i64 j ∧ st = .int .i64 (c : Int) ∧ Hid (c = ovr (bag.take j) h) ∧ Hid (wr = w.alloc (rsBlk k (.slice ao n cap) vt lo hi sl vk))) (fun _ si _ => n - (intOf si).toNat)
  case atStart => exact ⟨0, 0, Nat.zero_le _, rfl, rfl, by simp [Hid, ovr], rfl⟩
  case round =>
    obtain ⟨j, c, hj, rfl, rfl, Hc, Hw⟩ := hrel
    obtain rfl := Hw.out
    obtain ⟨c0, c1, c2, c3, c4, c5, c6, cz⟩ := blk7' HBX.out
    by_cases hlt : j < n
    · have hlt' : j < bag.length := by rw [HN.out]; exact hlt
      obtain ⟨g, rfl, hg, hx, hh⟩ := HB.out.cells hlt'
      have hgz : g < (w.alloc (rsBlk k (.slice (some ⟨g, 0, none⟩) n cap) vt lo hi sl vk)).heap.size := by simp; omega
      have hh' := (((Below.refl w.heap.size w).alloc (Nat.le_refl _) (rsBlk k (.slice (some ⟨g, 0, none⟩) n cap) vt lo hi sl vk)).cell (p := ⟨g, j * 2 + 1, none⟩) hg).trans hh
      have h30 := HL.out.at hlt'
      have HS := hid (ovr_step (h := h) hlt')
      have hb1 := HTL.out (j + 1)
      rw [HS.out, ← Hc.out] at hb1
      have HPW := hid (fun w' => rpower_any (bag.getD j (0, 0)).2 w' (by omega))
      generalize (bag.getD j (0, 0)).2 = z at *
      clear hx hh
      by_cases hz : h < z
      · rw [if_pos hz] at HS hb1
        generalize 2 ^ z = pw at *
        go_wp2_with (go_at_call 97; refine (HPW.out _).mono ?_; rintro e w' ⟨rfl, hw⟩; obtain rfl := hw.symm)
        go_roundw
        case rel => exact ⟨j + 1, c + pw, by omega, by go_num, by go_num, by rw [Hid, HS.out, Hc.out], trivial⟩
        case measure => simp [intOf]; omega
      · rw [if_neg hz] at HS hb1
        go_wp2_with fail
        go_roundw
        case rel => exact ⟨j + 1, c, by omega, by go_num, rfl, by rw [Hid, HS.out, Hc.out, Nat.add_zero], trivial⟩
        case measure => simp [intOf]; omega
    · have HE : Hid (c = ovr bag h) := by rw [Hid, Hc.out, bagW_all bag (by rw [HN.out]; omega)]
      go_wp2_with fail
      go_ret
      exact ⟨ret_int (by rw [HE.out]), (Below.refl _ _).alloc (Nat.le_refl _) _⟩

theorem bagL_low {L : List Lvl} (h : L.length ≤ 31) : Low (bagL 0 L) := fun z hz => by
  have := bagL_lt L 0 z hz
  omega

set_option maxHeartbeats 4000000 in
set_option maxRecDepth 100000 in
theorem rstands_any (k : Nat) (vb vt vk : Value) (lo hi : Int) (sl : Bool) (L : List Lvl) (w : World) (hB : BagAt w vb (bagL 0 L)) (hT : Ints w vt (nats (timesN L))) (hl : nsum L ≤ 100000) (hk : k ≤ 255) (h1 : 1 ≤ L.length) (hn : L.length ≤ 29) (htm : ∀ j, (L.getD j Lvl.none).times ≤ 4294967296) :
    Calls Tryz.prog 94 #[rsVal k vb vt lo hi sl vk] w fun e w' => (∃ b, e = .returned (.bool b) ∧ (b = true ↔ standsP ⟨k, L, lo, hi⟩)) ∧ Below w.heap.size w w' := by
  obtain ⟨bo, bcap, rfl, hq1, hq2⟩ := hB.form
  obtain ⟨tO, tcap, rfl, hq3⟩ := hT.form
  clear hq1 hq2 hq3
  have htl : (nats (timesN L)).length = L.length := by simp [nats, timesN]
  have hbl : (bagL 0 L).length = nsum L := bagL_length L 0
  have hlow : Low (bagL 0 L) := bagL_low (by omega)
  rw [htl] at hT ⊢
  rw [hbl] at hB ⊢
  have HON := hid (fun (h : Nat) (w' : World) (hb : Below w.heap.size w w') => ron_any k h (.slice bo (nsum L) bcap) (.slice tO L.length tcap) vk lo hi sl (bagL 0 L) w' (hB.below hb) (by omega))
  have HCO := hid (fun (w' : World) (hb : Below w.heap.size w w') => rcount_any k (.slice bo (nsum L) bcap) (.slice tO L.length tcap) vk lo hi sl (bagL 0 L) w' (hB.below hb) (by omega) hlow)
  have HCA := hid (fun (w' : World) => rcapacity_any k L.length tcap tO (.slice bo (nsum L) bcap) vk lo hi sl w' hk (by omega))
  have HOV := hid (fun (h : Nat) (w' : World) (hb : Below w.heap.size w w') => rover_any k h (.slice bo (nsum L) bcap) (.slice tO L.length tcap) vk lo hi sl (bagL 0 L) w' (hB.below hb) (by omega) hlow)
  have HHO := hid (fun (d : Nat) (w' : World) (hd : d ≤ 30) => rholds_any k d w' hk hd)
  have HPW := hid (fun (h : Nat) (w' : World) (hh : h ≤ 60) => rpower_any h w' hh)
  have HTT := hid hT
  have HLO : Hid (∀ j, (lvOf (bagL 0 L) j).length = (L.getD j Lvl.none).items.length) := fun j => (bagL_of L j).length_eq
  have HWS : Hid (bagW (bagL 0 L) = wsum L) := bagW_of (bagL_of L)
  have HOA := hid (ovr_at L)
  have HST : Hid (standsP ⟨k, L, lo, hi⟩ ↔ (2 ≤ k ∧ k ≤ 64 ∧ wsum L ≤ 268435456 ∧ nsum L ≤ capSum k L.length ∧ (1 < L.length → 0 < (L.getD (L.length - 1) Lvl.none).items.length) ∧ ∀ h, h < L.length → goneUp k L h)) := Iff.rfl
  have HGU : Hid (∀ h, goneUp k L h ↔ (L.getD h Lvl.none).times ≤ 2 ^ (h + 1) * wsum (L.drop (h + 1)) / (capOf k (L.length - 1 - h) * 2 ^ h)) := fun h => Iff.rfl
  have hwb := Nat.le_trans (Nat.le_of_eq HWS.out.symm) (bagW_bd hlow)
  have hcs := capSum_255 k hk L.length
  have HOB : Hid (∀ h, ovr (bagL 0 L) h ≤ 107374182400000) := fun h => by
    have h1 := ovr_le h (bagL 0 L)
    have h2 := bagW_bd hlow
    omega
  have HCB : Hid (∀ d, 2 ≤ capOf k d ∧ capOf k d ≤ 255) := fun d => ⟨capOf_ge k d, capOf_255 k d hk⟩
  have HTL := hid htl
  generalize hne : L.length = n at *
  have HN := hid hne
  have hmt := HLO.out (n - 1)
  have hmb := Nat.le_trans (lvOf_le (bagL 0 L) (n - 1)) (by omega : (bagL 0 L).length ≤ 100000)
  generalize (L.getD (n - 1) Lvl.none).items.length = mt at *
  have HONT := hid (HON.out (n - 1))
  rw [hmt] at HONT hmb
  rw [HWS.out] at HCO
  generalize wsum L = ws at *
  generalize capSum k n = cs at *
  generalize nsum L = m at *
  clear hB hT hlow hbl htl hne hmt
  have HS1 := hid (BxB.first (rsBlk k (.slice bo m bcap) (.slice tO n tcap) lo hi sl vk) w)
  obtain ⟨c0, c1, c2, c3, c4, c5, c6, cz⟩ := blk7' HS1.out.box
  have hzz := lt_of_blk' HS1.out.box
  have hn1 : (n : Int) - 1 = ((n - 1 : Nat) : Int) := by omega
  have HN1 := hid hn1
  clear hn1
  go_enter Tryz.func94, Tryz.ntmps94
  go_wp2_with fail
  rw [HN1.out]
  refine (HONT.out _ HS1.out.bel).mono ?_
  rintro e w1 ⟨rfl, hb1⟩
  have HW1 := hid (HS1.out.next hb1)
  clear hb1 HS1 HONT c0 c1 c2 c3 c4 c5 c6 cz hzz
  obtain ⟨c0, c1, c2, c3, c4, c5, c6, cz⟩ := blk7' HW1.out.box
  have hzz := lt_of_blk' HW1.out.box
  go_wp2_with fail
  refine (HCO.out _ HW1.out.bel).mono ?_
  rintro e w2 ⟨rfl, hb2⟩
  have HW2 := hid (HW1.out.next hb2)
  clear hb2 HW1 HCO c0 c1 c2 c3 c4 c5 c6 cz hzz
  obtain ⟨c0, c1, c2, c3, c4, c5, c6, cz⟩ := blk7' HW2.out.box
  have hzz := lt_of_blk' HW2.out.box
  go_wp2_with fail
  refine (HCA.out _).mono ?_
  rintro e w3 ⟨rfl, hb3⟩
  have HW3 := hid (HW2.out.next hb3)
  clear hb3 HW2 HCA c0 c1 c2 c3 c4 c5 c6 cz hzz
  obtain ⟨c0, c1, c2, c3, c4, c5, c6, cz⟩ := blk7' HW3.out.box
  have hzz := lt_of_blk' HW3.out.box
  by_cases g1 : k < 2
  · have g1' : decide ((k : Int) < 2) = true := decide_eq_true (by omega)
    have HNO : Hid (¬ standsP ⟨k, L, lo, hi⟩) := fun h => by have := HST.out.1 h; omega
    go_wp2_with fail
    go_ret
    exact ⟨⟨false, rfl, fun h => (by cases h), fun h => absurd h HNO.out⟩, HW3.out.bel⟩
  have g1' : decide ((k : Int) < 2) = false := decide_eq_false (by omega)
  by_cases g2 : 64 < k
  · have g2' : decide ((64 : Int) < (k : Int)) = true := decide_eq_true (by omega)
    have HNO : Hid (¬ standsP ⟨k, L, lo, hi⟩) := fun h => by have := HST.out.1 h; omega
    go_wp2_with fail
    go_ret
    exact ⟨⟨false, rfl, fun h => (by cases h), fun h => absurd h HNO.out⟩, HW3.out.bel⟩
  have g2' : decide ((64 : Int) < (k : Int)) = false := decide_eq_false (by omega)
  by_cases g3 : 268435456 < ws
  · have g3' : decide ((268435456 : Int) < (ws : Int)) = true := decide_eq_true (by omega)
    have HNO : Hid (¬ standsP ⟨k, L, lo, hi⟩) := fun h => by have := HST.out.1 h; omega
    go_wp2_with fail
    go_ret
    exact ⟨⟨false, rfl, fun h => (by cases h), fun h => absurd h HNO.out⟩, HW3.out.bel⟩
  have g3' : decide ((268435456 : Int) < (ws : Int)) = false := decide_eq_false (by omega)
  by_cases g4 : cs < m
  · have g4' : decide ((cs : Int) < (m : Int)) = true := decide_eq_true (by omega)
    have HNO : Hid (¬ standsP ⟨k, L, lo, hi⟩) := fun h => by have := HST.out.1 h; omega
    go_wp2_with fail
    go_ret
    exact ⟨⟨false, rfl, fun h => (by cases h), fun h => absurd h HNO.out⟩, HW3.out.bel⟩
  have g4' : decide ((cs : Int) < (m : Int)) = false := decide_eq_false (by omega)
  go_upto_region 6 with fail
  go_cut [46] from 39 (fun s46 wd => s46 = .bool (decide (1 < n ∧ mt = 0)) ∧ wd = w3)
  case first =>
    by_cases e1 : 1 < n
    · have e1' : decide ((1 : Int) < (n : Int)) = true := decide_eq_true (by omega)
      by_cases e2 : mt = 0
      · have e2' : ((mt : Int) == 0) = true := by simp [e2]
        have HU : Hid (decide (1 < n ∧ mt = 0) = true) := decide_eq_true ⟨e1, e2⟩
        go_wp2_with fail
        go_meet
        exact ⟨by rw [HU.out], rfl⟩
      · have e2' : ((mt : Int) == 0) = false := by simp [e2]
        have HU : Hid (decide (1 < n ∧ mt = 0) = false) := decide_eq_false (fun h => e2 h.2)
        go_wp2_with fail
        go_meet
        exact ⟨by rw [HU.out], rfl⟩
    · have e1' : decide ((1 : Int) < (n : Int)) = false := decide_eq_false (by omega)
      have HU : Hid (decide (1 < n ∧ mt = 0) = false) := decide_eq_false (fun h => e1 h.1)
      go_wp2_with fail
      go_meet
      exact ⟨by rw [HU.out], rfl⟩
  case rest =>
  obtain ⟨rfl, hwd⟩ := hcut
  obtain rfl := hwd.symm
  clear hwd
  by_cases g5 : 1 < n ∧ mt = 0
  · have g5' : decide (1 < n ∧ mt = 0) = true := decide_eq_true g5
    have HNO : Hid (¬ standsP ⟨k, L, lo, hi⟩) := fun h => by have := (HST.out.1 h).2.2.2.2.1 g5.1; omega
    simp only [g5']
    clear g5 g5'
    go_wp2_with fail
    go_ret
    exact ⟨⟨false, rfl, fun h => (by cases h), fun h => absurd h HNO.out⟩, HW3.out.bel⟩
  have g5' : decide (1 < n ∧ mt = 0) = false := decide_eq_false g5
  simp only [g5']
  have HYES : Hid ((∀ h, h < n → goneUp k L h) → standsP ⟨k, L, lo, hi⟩) := fun h => HST.out.2 ⟨by omega, by omega, by omega, by omega, by omega, h⟩
  have HALL : Hid (standsP ⟨k, L, lo, hi⟩ → ∀ h, h < n → goneUp k L h) := fun h => (HST.out.1 h).2.2.2.2.2
  clear g5 g5' g1 g1' g2 g2' g3 g3' g4 g4' HST
  go_wp2_with fail
  go_loopw [6] (fun si wr => ∃ j : Nat, j ≤ n ∧ si = .int .i64 j ∧ Hid (∀ h, h < j → goneUp k L h) ∧ Hid (BxB (rsBlk k (.slice bo m bcap) (.slice tO n tcap) lo hi sl vk) w wr)) (fun si _ => n - (intOf si).toNat)
  case atStart => exact ⟨0, Nat.zero_le _, rfl, fun h hh => absurd hh (Nat.not_lt_zero _), HW3⟩
  case round =>
    obtain ⟨j, hj, rfl, Hg, Hw⟩ := hrel
    clear HW3 c0 c1 c2 c3 c4 c5 c6 cz hzz
    obtain ⟨c0, c1, c2, c3, c4, c5, c6, cz⟩ := blk7' Hw.out.box
    have hzz := lt_of_blk' Hw.out.box
    by_cases hlt : j < n
    · obtain ⟨g, rfl, hg, ht⟩ := HTT.out.cell (t := j) (by rw [HTL.out]; exact hlt)
      rw [timesN_at] at ht
      have HT0 := hid ht
      have htj := htm j
      have HGJ := hid (HGU.out j)
      rw [← HOA.out] at HGJ
      have hob := HOB.out j
      have HOVJ := hid (HOV.out j wr Hw.out.bel)
      have hcb := HCB.out (n - 1 - j)
      have HHOJ := hid (HHO.out (n - 1 - j) wr (by omega))
      have HPWJ := hid (HPW.out j wr (by omega))
      have hpb : 2 ^ j ≤ 268435456 := Nat.pow_le_pow_right (n := 2) (by decide) (show j ≤ 28 by omega)
      have hpp : 0 < 2 ^ j := Nat.pow_pos (by decide)
      generalize ovr (bagL 0 L) j = o at *
      generalize capOf k (n - 1 - j) = c at *
      generalize 2 ^ j = pw at *
      generalize (L.getD j Lvl.none).times = tj at *
      have hnj : (n : Int) - 1 - (j : Int) = ((n - 1 - j : Nat) : Int) := by omega
      have HNJ := hid hnj
      clear ht hnj
      go_wp2_with fail
      rw [HNJ.out]
      refine HHOJ.out.mono ?_
      rintro e w4 ⟨rfl, hw4⟩
      obtain rfl := hw4.symm
      clear hw4
      go_wp2_with (go_at_call 97; refine HPWJ.out.mono ?_; rintro e w' ⟨rfl, hw⟩; obtain rfl := hw.symm)
      refine HOVJ.out.mono ?_
      rintro e w5 ⟨rfl, hb5⟩
      have HW5 := hid (Hw.out.next hb5)
      clear hb5 HOVJ HPWJ HHOJ c0 c1 c2 c3 c4 c5 c6 cz hzz
      obtain ⟨c0, c1, c2, c3, c4, c5, c6, cz⟩ := blk7' HW5.out.box
      have hzz := lt_of_blk' HW5.out.box
      have ht5 := (HW5.out.bel.cell (p := ⟨g, j, none⟩) hg).trans HT0.out
      have hgz := Nat.lt_of_lt_of_le hg HW5.out.bel.size
      have hm1 : (c : Int) * (pw : Int) = ((c * pw : Nat) : Int) := by simp
      have hm2 : c * pw ≤ 255 * 268435456 := Nat.mul_le_mul hcb.2 hpb
      have hm3 : 0 < c * pw := Nat.mul_pos (by omega) hpp
      have HM1 := hid hm1
      have hq1 : (0 : Int) < (c : Int) * (pw : Int) := by rw [hm1]; omega
      have hq2 : (c : Int) * (pw : Int) ≤ 68451041280 := by rw [hm1]; omega
      clear hm1
      go_wp2_with fail
      have HD : Hid (wrap64 ((o : Int) / ((c : Int) * (pw : Int))) = ((o / (c * pw) : Nat) : Int)) := by
        rw [Hid, HM1.out, ← Int.natCast_ediv]
        have : o / (c * pw) ≤ o := Nat.div_le_self _ _
        generalize o / (c * pw) = q at *
        unfold wrap64
        omega
      have HG5 : Hid ((∀ h, h < j + 1 → goneUp k L h) ∨ o / (c * pw) < tj) := by
        by_cases hgt : o / (c * pw) < tj
        · exact .inr hgt
        · refine .inl fun h hh => ?_
          by_cases e : h = j
          · subst e; exact HGJ.out.2 (by omega)
          · exact Hg.out h (by omega)
      have HG6 : Hid (o / (c * pw) < tj → ¬ standsP ⟨k, L, lo, hi⟩) := fun h1 h2 => by
        have := HGJ.out.1 (HALL.out h2 j hlt)
        omega
      generalize o / (c * pw) = qq at *
      go_quiet (fail)
      have HW6 := hid (HW5.out.next (below_drewN (Below.refl _ _) nq))
      clear c0 c1 c2 c3 c4 c5 c6 cz hzz ht5 hgz
      go_wp2_with fail
      · rename_i hh
        rw [HD.out] at hh
        go_ret
        exact ⟨⟨false, rfl, fun h => (by cases h), fun h => absurd h (HG6.out (by omega))⟩, HW6.out.bel⟩
      · rename_i hh
        rw [HD.out] at hh
        have HG7 : Hid (∀ h, h < j + 1 → goneUp k L h) := HG5.out.resolve_right (by omega)
        go_roundw
        case rel => exact ⟨j + 1, by omega, by go_num, HG7, HW6⟩
        case measure => simp [intOf]; omega
    · obtain rfl : n = j := by omega
      go_wp2_with fail
      go_ret
      exact ⟨⟨true, rfl, fun _ => HYES.out Hg.out, fun _ => rfl⟩, Hw.out.bel⟩

end Go.Proofs.YtklicjbpjigfdabGreat
