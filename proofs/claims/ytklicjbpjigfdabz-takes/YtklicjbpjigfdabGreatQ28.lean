/- DERIVED. The walk of the document's own ends. -/
import Derived.Test.YtklicjbpjigfdabGreatQ27
import Derived.Test.YtklicjbpjigfdabGreatQ21
import Derived.Test.YtklicjbpjigfdabGreatQ11
import Derived.Deep.CutBlock
namespace Go.Proofs.YtklicjbpjigfdabGreat
open Go.RowKit
attribute [local go_sem ↓] Go.wp_at_zero Go.wp_at_succ

/-- A truth is told. -/
def BAns (P : Prop) (e : Ending) : Prop := ∃ b, e = .returned (.bool b) ∧ (b = true ↔ P)
theorem BAns.yes {P : Prop} (h : P) : BAns P (.returned (.bool true)) := ⟨true, rfl, fun _ => h, fun _ => rfl⟩
theorem BAns.no {P : Prop} (h : ¬ P) : BAns P (.returned (.bool false)) := ⟨false, rfl, fun e => (by cases e), fun k => absurd k h⟩
theorem bagL_fst : ∀ (L : List Lvl) (i : Nat), (bagL i L).map (fun z => z.1) = itemsAll L
  | [], i => rfl
  | l :: L, i => by
                       rw [bagL, itemsAll, List.map_append, bagL_fst L (i + 1), List.map_map]
                       congr 1
                       exact List.map_id _
theorem items_at {L : List Lvl} {x : Int} : x ∈ itemsAll L ↔ ∃ i, i < nsum L ∧ ((bagL 0 L).getD i (0, 0)).1 = x := by
  rw [← bagL_fst L 0, List.mem_map]
  constructor
  · rintro ⟨z, hz, rfl⟩
    obtain ⟨i, hi, e⟩ := List.getElem_of_mem hz
    exact ⟨i, by rw [← bagL_length L 0]; exact hi, by simp [List.getD, hi, e]⟩
  · rintro ⟨i, hi, rfl⟩
    exact ⟨_, getD_mem (by rw [bagL_length]; exact hi), rfl⟩
theorem never_iff {L : List Lvl} : (∃ l ∈ L, 0 < l.times) ↔ ¬ ∀ i, i < L.length → (L.getD i Lvl.none).times = 0 := by
  constructor
  · rintro ⟨l, hl, h⟩ hn
    obtain ⟨i, hi, e⟩ := List.getElem_of_mem hl
    have := hn i hi
    simp only [List.getD, List.getElem?_eq_getElem hi, Option.getD_some, e] at this
    omega
  · intro hn
    apply Decidable.byContradiction
    intro h
    refine hn fun i hi => ?_
    apply Decidable.byContradiction
    intro h0
    refine h ⟨L.getD i Lvl.none, ?_, by omega⟩
    rw [List.getD_eq_getElem?_getD, List.getElem?_eq_getElem hi]
    exact List.getElem_mem hi
/-- The ends, as they are counted. -/
theorem endsP_at {s : Sk} : endsP s ↔ (∀ i, i < nsum s.lv → s.lo ≤ ((bagL 0 s.lv).getD i (0, 0)).1 ∧ ((bagL 0 s.lv).getD i (0, 0)).1 ≤ s.hi) ∧ ((¬ ∀ i, i < s.lv.length → (s.lv.getD i Lvl.none).times = 0) ∨ nsum s.lv = 0 ∨ ((∃ i, i < nsum s.lv ∧ ((bagL 0 s.lv).getD i (0, 0)).1 = s.lo) ∧ ∃ i, i < nsum s.lv ∧ ((bagL 0 s.lv).getD i (0, 0)).1 = s.hi)) := by
  unfold endsP
  rw [never_iff, items_at, items_at]
  constructor
  · rintro ⟨h1, h2⟩
    exact ⟨fun i hi => h1 _ (items_at.2 ⟨i, hi, rfl⟩), h2⟩
  · rintro ⟨h1, h2⟩
    refine ⟨fun x hx => ?_, h2⟩
    obtain ⟨i, hi, rfl⟩ := items_at.1 hx
    exact h1 i hi
theorem ex_step {P : Nat → Prop} {j : Nat} : (∃ i, i < j + 1 ∧ P i) ↔ (∃ i, i < j ∧ P i) ∨ P j := by
  constructor
  · rintro ⟨i, hi, h⟩
    by_cases e : i = j
    · subst e; exact .inr h
    · exact .inl ⟨i, by omega, h⟩
  · rintro (⟨i, hi, h⟩ | h)
    · exact ⟨i, by omega, h⟩
    · exact ⟨j, by omega, h⟩
theorem all_step {P : Nat → Prop} {j : Nat} : (∀ i, i < j + 1 → P i) ↔ (∀ i, i < j → P i) ∧ P j := by
  constructor
  · intro h
    exact ⟨fun i hi => h i (by omega), h j (by omega)⟩
  · rintro ⟨h1, h2⟩ i hi
    by_cases e : i = j
    · subst e; exact h2
    · exact h1 i (by omega)

set_option maxHeartbeats 4000000 in
set_option maxRecDepth 100000 in
theorem rendsIn_any (k : Nat) (vb vt vk : Value) (lo hi : Int) (sl : Bool) (L : List Lvl) (w : World) (hB : BagAt w vb (bagL 0 L)) (hT : Ints w vt (nats (timesN L))) (hl : nsum L ≤ 100000) (hn : L.length ≤ 29) :
    Calls Tryz.prog 95 #[rsVal k vb vt lo hi sl vk] w fun e w' => BAns (endsP ⟨k, L, lo, hi⟩) e ∧ Below w.heap.size w w' := by
  obtain ⟨bo, bcap, rfl, hq1, hq2⟩ := hB.form
  obtain ⟨tO, tcap, rfl, hq3⟩ := hT.form
  clear hq1 hq2 hq3
  have htl : (nats (timesN L)).length = L.length := by simp [nats, timesN]
  have hbl : (bagL 0 L).length = nsum L := bagL_length L 0
  rw [htl] at hT ⊢
  rw [hbl] at hB ⊢
  have HTT := hid hT
  have HBB := hid hB
  have HEP : Hid (endsP ⟨k, L, lo, hi⟩ ↔ _) := endsP_at (s := ⟨k, L, lo, hi⟩)
  simp only [] at HEP
  have HTL := hid htl
  have HBL := hid hbl
  generalize hne : L.length = n at *
  generalize hme : nsum L = m at *
  have HBX := hid (heap_alloc_new w (rsBlk k (.slice bo m bcap) (.slice tO n tcap) lo hi sl vk))
  have HBE := hid (below_new_al (w := w) (rsBlk k (.slice bo m bcap) (.slice tO n tcap) lo hi sl vk))
  obtain ⟨c0, c1, c2, c3, c4, c5, c6, cz⟩ := blk7' HBX.out
  have hzz := lt_of_blk' HBX.out
  clear hB hT htl hbl hne hme
  go_enter Tryz.func95, Tryz.ntmps95
  go_wp2_with fail
  go_loop [3, 4] (fun sn si => ∃ (j : Nat) (nv : Bool), j ≤ n ∧ si = .int .i64 (j : Int) ∧ sn = .bool nv ∧ Hid (nv = true ↔ ∀ i, i < j → (L.getD i Lvl.none).times = 0)) (fun _ si => n - (intOf si).toNat)
  case atStart => exact ⟨0, true, Nat.zero_le _, rfl, rfl, fun _ i hi => absurd hi (Nat.not_lt_zero _), fun _ => rfl⟩
  case round =>
    obtain ⟨j, nv, hj, rfl, rfl, Hn⟩ := hrel
    by_cases hlt : j < n
    · obtain ⟨g, rfl, hg, ht⟩ := HTT.out.cell (t := j) (by rw [HTL.out]; exact hlt)
      rw [timesN_at] at ht
      have ht' := (HBE.out.cell (p := ⟨g, j, none⟩) hg).trans ht
      have hgz : g < (w.alloc (rsBlk k (.slice bo m bcap) (.slice (some ⟨g, 0, none⟩) n tcap) lo hi sl vk)).heap.size := by simp; omega
      have HAS := hid (all_step (P := fun i => (L.getD i Lvl.none).times = 0) (j := j))
      generalize (L.getD j Lvl.none).times = tj at *
      clear ht
      cases nv with
      | false =>
        have HF : Hid (false = true ↔ ∀ i, i < j + 1 → (L.getD i Lvl.none).times = 0) := ⟨fun h => (by cases h), fun h => Hn.out.2 (HAS.out.1 h).1⟩
        go_wp2_with fail
        go_round
        case rel => exact ⟨j + 1, false, by omega, by go_num, rfl, HF⟩
        case measure => simp [intOf]; omega
      | true =>
        by_cases h0 : tj = 0
        · have h0' : ((tj : Int) == 0) = true := by simp [h0]
          have HF : Hid (true = true ↔ ∀ i, i < j + 1 → (L.getD i Lvl.none).times = 0) := ⟨fun _ => HAS.out.2 ⟨Hn.out.1 rfl, h0⟩, fun _ => rfl⟩
          go_wp2_with fail
          go_round
          case rel => exact ⟨j + 1, true, by omega, by go_num, rfl, HF⟩
          case measure => simp [intOf]; omega
        · have h0' : ((tj : Int) == 0) = false := by simp [h0]
          have HF : Hid (false = true ↔ ∀ i, i < j + 1 → (L.getD i Lvl.none).times = 0) := ⟨fun h => (by cases h), fun h => absurd (HAS.out.1 h).2 h0⟩
          go_wp2_with fail
          go_round
          case rel => exact ⟨j + 1, false, by omega, by go_num, rfl, HF⟩
          case measure => simp [intOf]; omega
    · obtain rfl : n = j := by omega
      clear hlt
      go_wp2_with fail
      go_loop [5, 6, 7] (fun sa sb si => ∃ (j a b : Nat), j ≤ m ∧ a ≤ j ∧ b ≤ j ∧ si = .int .i64 (j : Int) ∧ sa = .int .i64 (a : Int) ∧ sb = .int .i64 (b : Int) ∧ Hid (∀ i, i < j → lo ≤ ((bagL 0 L).getD i (0, 0)).1 ∧ ((bagL 0 L).getD i (0, 0)).1 ≤ hi) ∧ Hid (0 < a ↔ ∃ i, i < j ∧ ((bagL 0 L).getD i (0, 0)).1 = lo) ∧ Hid (0 < b ↔ ∃ i, i < j ∧ ((bagL 0 L).getD i (0, 0)).1 = hi)) (fun _ _ si => m - (intOf si).toNat)
      case atStart => exact ⟨0, 0, 0, Nat.zero_le _, Nat.le_refl _, Nat.le_refl _, rfl, rfl, rfl, fun i hi => absurd hi (Nat.not_lt_zero _), ⟨fun h => absurd h (Nat.lt_irrefl _), fun ⟨i, hi, _⟩ => absurd hi (Nat.not_lt_zero _)⟩, ⟨fun h => absurd h (Nat.lt_irrefl _), fun ⟨i, hi, _⟩ => absurd hi (Nat.not_lt_zero _)⟩⟩
      case round =>
        obtain ⟨j, a, b, hj2, ha, hb, rfl, rfl, rfl, Hr, Ha, Hb⟩ := hrel
        by_cases hlt : j < m
        · obtain ⟨g, rfl, hg, hx, hh⟩ := HBB.out.cells (t := j) (by rw [HBL.out]; exact hlt)
          have hx' := (HBE.out.cell (p := ⟨g, j * 2, none⟩) hg).trans hx
          have hgz : g < (w.alloc (rsBlk k (.slice (some ⟨g, 0, none⟩) m bcap) (.slice tO n tcap) lo hi sl vk)).heap.size := by simp; omega
          have HAL := hid (all_step (P := fun i => lo ≤ ((bagL 0 L).getD i (0, 0)).1 ∧ ((bagL 0 L).getD i (0, 0)).1 ≤ hi) (j := j))
          have HE1 := hid (ex_step (P := fun i => ((bagL 0 L).getD i (0, 0)).1 = lo) (j := j))
          have HE2 := hid (ex_step (P := fun i => ((bagL 0 L).getD i (0, 0)).1 = hi) (j := j))
          have HOUT : Hid (¬ (lo ≤ ((bagL 0 L).getD j (0, 0)).1 ∧ ((bagL 0 L).getD j (0, 0)).1 ≤ hi) → ¬ endsP ⟨k, L, lo, hi⟩) := fun h1 h2 => h1 ((HEP.out.1 h2).1 j hlt)
          generalize ((bagL 0 L).getD j (0, 0)).1 = x at *
          clear hx hh
          by_cases h1 : x < lo
          · have h1' : decide (x < lo) = true := decide_eq_true h1
            have HNO := hid (HOUT.out (fun h => by omega))
            go_wp2_with fail
            go_ret
            exact ⟨BAns.no (fun h => absurd h HNO.out), HBE.out⟩
          have h1' : decide (x < lo) = false := decide_eq_false h1
          by_cases h2 : hi < x
          · have h2' : decide (hi < x) = true := decide_eq_true h2
            have HNO := hid (HOUT.out (fun h => by omega))
            go_wp2_with fail
            go_ret
            exact ⟨BAns.no (fun h => absurd h HNO.out), HBE.out⟩
          have h2' : decide (hi < x) = false := decide_eq_false h2
          have HR1 : Hid (∀ i, i < j + 1 → lo ≤ ((bagL 0 L).getD i (0, 0)).1 ∧ ((bagL 0 L).getD i (0, 0)).1 ≤ hi) := HAL.out.2 ⟨Hr.out, by omega, by omega⟩
          by_cases h3 : x = lo
          · have h3' : (x == lo) = true := by simp [h3]
            have HA1 : Hid (0 < a + 1 ↔ ∃ i, i < j + 1 ∧ ((bagL 0 L).getD i (0, 0)).1 = lo) := ⟨fun _ => HE1.out.2 (.inr h3), fun _ => by omega⟩
            by_cases h4 : x = hi
            · have h4' : (x == hi) = true := by simp [h4]
              have HB1 : Hid (0 < b + 1 ↔ ∃ i, i < j + 1 ∧ ((bagL 0 L).getD i (0, 0)).1 = hi) := ⟨fun _ => HE2.out.2 (.inr h4), fun _ => by omega⟩
              go_wp2_with fail
              go_round
              case rel => exact ⟨j + 1, a + 1, b + 1, by omega, by omega, by omega, by go_num, by go_num, by go_num, HR1, HA1, HB1⟩
              case measure => simp [intOf]; omega
            · have h4' : (x == hi) = false := by simp [h4]
              have HB1 : Hid (0 < b ↔ ∃ i, i < j + 1 ∧ ((bagL 0 L).getD i (0, 0)).1 = hi) := ⟨fun h => HE2.out.2 (.inl (Hb.out.1 h)), fun h => Hb.out.2 ((HE2.out.1 h).resolve_right h4)⟩
              go_wp2_with fail
              go_round
              case rel => exact ⟨j + 1, a + 1, b, by omega, by omega, by omega, by go_num, by go_num, rfl, HR1, HA1, HB1⟩
              case measure => simp [intOf]; omega
          · have h3' : (x == lo) = false := by simp [h3]
            have HA1 : Hid (0 < a ↔ ∃ i, i < j + 1 ∧ ((bagL 0 L).getD i (0, 0)).1 = lo) := ⟨fun h => HE1.out.2 (.inl (Ha.out.1 h)), fun h => Ha.out.2 ((HE1.out.1 h).resolve_right h3)⟩
            by_cases h4 : x = hi
            · have h4' : (x == hi) = true := by simp [h4]
              have HB1 : Hid (0 < b + 1 ↔ ∃ i, i < j + 1 ∧ ((bagL 0 L).getD i (0, 0)).1 = hi) := ⟨fun _ => HE2.out.2 (.inr h4), fun _ => by omega⟩
              go_wp2_with fail
              go_round
              case rel => exact ⟨j + 1, a, b + 1, by omega, by omega, by omega, by go_num, rfl, by go_num, HR1, HA1, HB1⟩
              case measure => simp [intOf]; omega
            · have h4' : (x == hi) = false := by simp [h4]
              have HB1 : Hid (0 < b ↔ ∃ i, i < j + 1 ∧ ((bagL 0 L).getD i (0, 0)).1 = hi) := ⟨fun h => HE2.out.2 (.inl (Hb.out.1 h)), fun h => Hb.out.2 ((HE2.out.1 h).resolve_right h4)⟩
              go_wp2_with fail
              go_round
              case rel => exact ⟨j + 1, a, b, by omega, by omega, by omega, by go_num, rfl, rfl, HR1, HA1, HB1⟩
              case measure => simp [intOf]; omega
        · obtain rfl : m = j := by omega
          clear hlt
          cases nv with
          | false =>
            have HY : Hid (endsP ⟨k, L, lo, hi⟩) := HEP.out.2 ⟨Hr.out, .inl (fun h => by have := Hn.out.2 h; cases this)⟩
            go_wp2_with fail
            go_ret
            exact ⟨BAns.yes (HY.out), HBE.out⟩
          | true =>
            by_cases h0 : m = 0
            · have h0' : ((m : Int) == 0) = true := by simp [h0]
              have HY : Hid (endsP ⟨k, L, lo, hi⟩) := HEP.out.2 ⟨Hr.out, .inr (.inl h0)⟩
              go_wp2_with fail
              go_ret
              exact ⟨BAns.yes (HY.out), by have := HBE.out; rw [h0] at this; exact this⟩
            have h0' : ((m : Int) == 0) = false := by simp [h0]
            have HRE : Hid (endsP ⟨k, L, lo, hi⟩ ↔ 0 < a ∧ 0 < b) := by
              constructor
              · intro h
                rcases (HEP.out.1 h).2 with h | h | h
                · exact absurd (Hn.out.1 rfl) h
                · exact absurd h h0
                · exact ⟨Ha.out.2 h.1, Hb.out.2 h.2⟩
              · rintro ⟨h1, h2⟩
                exact HEP.out.2 ⟨Hr.out, .inr (.inr ⟨Ha.out.1 h1, Hb.out.1 h2⟩)⟩
            by_cases h1 : 0 < a
            · have h1' : decide ((0 : Int) < (a : Int)) = true := decide_eq_true (by omega)
              by_cases h2 : 0 < b
              · have h2' : decide ((0 : Int) < (b : Int)) = true := decide_eq_true (by omega)
                go_wp2_with fail
                go_ret
                exact ⟨BAns.yes (HRE.out.2 ⟨h1, h2⟩), HBE.out⟩
              · have h2' : decide ((0 : Int) < (b : Int)) = false := decide_eq_false (by omega)
                go_wp2_with fail
                go_ret
                exact ⟨BAns.no (fun h => absurd (HRE.out.1 h).2 h2), HBE.out⟩
            · have h1' : decide ((0 : Int) < (a : Int)) = false := decide_eq_false (by omega)
              go_wp2_with fail
              go_ret
              exact ⟨BAns.no (fun h => absurd (HRE.out.1 h).1 h1), HBE.out⟩

end Go.Proofs.YtklicjbpjigfdabGreat

/- DERIVED. The document's own loose: what is read, place by place, and the sketch as far as it is read. -/
namespace Go.Proofs.YtklicjbpjigfdabGreat
open Go.RowKit
attribute [local go_sem ↓] Go.wp_at_zero Go.wp_at_succ

theorem bagL_append : ∀ (a b : List Lvl) (i : Nat), bagL i (a ++ b) = bagL i a ++ bagL (i + a.length) b
  | [], b, i => by simp [bagL]
  | l :: a, b, i => by
    rw [List.cons_append, bagL, bagL, bagL_append a b (i + 1), List.length_cons, List.append_assoc, show i + (a.length + 1) = i + 1 + a.length by omega]
/-- What the document has read of the items: h levels, and i items of the next. -/
def rdBag (hs : List (Nat × Nat)) (r : List Nat) (h i : Nat) : List (Int × Nat) := bagL 0 (toldLv (hs.take h) r) ++ (toldNums i (r.drop (8 * hsum (hs.take h)))).map fun x => (x, h)
theorem rdBag_zero (hs : List (Nat × Nat)) (r : List Nat) (h : Nat) : rdBag hs r h 0 = bagL 0 (toldLv (hs.take h) r) := by simp [rdBag, toldNums]
theorem rdBag_step (hs : List (Nat × Nat)) (r : List Nat) (h i : Nat) : rdBag hs r h (i + 1) = rdBag hs r h i ++ [(s64 (leV ((r.drop (8 * (hsum (hs.take h) + i))).take 8)), h)] := by
  unfold rdBag
  rw [toldNums_snoc, List.map_append, List.append_assoc, List.drop_drop, ← Nat.mul_add]
  rfl
theorem rdBag_next {hs : List (Nat × Nat)} {r : List Nat} {h : Nat} (hh : h < hs.length) : rdBag hs r h (hs.getD h (0, 0)).1 = rdBag hs r (h + 1) 0 := by
  rw [rdBag_zero, take_snocP hh, toldLv_append, bagL_append, toldLv_length, List.length_take, Nat.min_eq_left (by omega), Nat.zero_add]
  unfold rdBag
  congr 1
  generalize hs.getD h (0, 0) = p
  obtain ⟨a, b⟩ := p
  simp [toldLv, bagL]
theorem rdBag_length {hs : List (Nat × Nat)} {r : List Nat} {h i : Nat} : (rdBag hs r h i).length = hsum (hs.take h) + i := by
  unfold rdBag
  rw [List.length_append, bagL_length, nsum_toldLv, List.length_map, toldNums_length]
theorem timesN_told : ∀ (hs : List (Nat × Nat)) (r : List Nat), timesN (toldLv hs r) = hs.map fun p => p.2
  | [], r => rfl
  | (a, b) :: hs, r => by
    have := timesN_told hs (r.drop (8 * a))
    simp only [toldLv, timesN, List.map_cons] at *
    rw [this]

/-- The sketch as far as it is read: its own block behind the answer's. -/
structure LoSt (w wr : World) (k : Nat) (vb vt : Value) (lo hi : Int) (acc : List (Int × Nat)) (T : List Nat) : Prop where
  res : wr.heap[w.heap.size]? = some rsZero
  blk : wr.heap[w.heap.size + 1]? = some (rsBlk k vb vt lo hi false (.slice none 0 0))
  own : wr.ownsRow w.heap.size 126 2 vb acc.length (itCells acc)
  ownT : wr.ownsRow w.heap.size 3 1 vt T.length (ints (nats T))
  bel : Below w.heap.size w wr
theorem LoSt.first (w : World) (k : Nat) : LoSt w ((w.alloc rsZero).alloc (rsBlk k (.slice none 0 0) (.slice none 0 0) 0 0 false (.slice none 0 0))) k (.slice none 0 0) (.slice none 0 0) 0 0 [] [] := by
  refine ⟨?_, ?_, World.ownsRow_nil _ _ _ _, World.ownsRow_nil _ _ _ _, ((below_new_al rsZero).trans ((below_new_al _).mono (by simp)))⟩
  · rw [Below.heap_alloc _ _ _ (by simp)]; exact heap_alloc_new _ _
  · have := heap_alloc_new (w.alloc rsZero) (rsBlk k (.slice none 0 0) (.slice none 0 0) 0 0 false (.slice none 0 0))
    simpa using this
theorem LoSt.later {w wr w' : World} {k : Nat} {vb vt : Value} {lo hi : Int} {acc : List (Int × Nat)} {T : List Nat} (h : LoSt w wr k vb vt lo hi acc T) (hb : Below wr.heap.size wr w') : LoSt w w' k vb vt lo hi acc T :=
  ⟨(hb.block _ (lt_of_blk' h.res)).trans h.res, (hb.block _ (lt_of_blk' h.blk)).trans h.blk, ownsRow_below h.own hb (fun _ e => ownsRow_lt h.own e), ownsRow_below h.ownT hb (fun _ e => ownsRow_lt h.ownT e), h.bel.trans (hb.mono h.bel.size)⟩
/-- One of its cells is set. -/
theorem LoSt.set {w wr : World} {k : Nat} {vb vt : Value} {lo hi : Int} {acc : List (Int × Nat)} {T : List Nat} (h : LoSt w wr k vb vt lo hi acc T) (i : Nat) (u : Value) {k' : Nat} {vb' vt' : Value} {lo' hi' : Int} (hb' : vb' = vb) (ht' : vt' = vt) (hs : (rsArr k vb vt lo hi false (.slice none 0 0)).setIfInBounds i u = rsArr k' vb' vt' lo' hi' false (.slice none 0 0)) : LoSt w (wr.setCell ⟨w.heap.size + 1, i, none⟩ u) k' vb' vt' lo' hi' acc T := by
  subst hb' ht'
  refine ⟨(Below.heap_setCell _ _ _ _ (by show w.heap.size ≠ w.heap.size + 1; omega)).trans h.res, ?_, ownsRow_block h.own (fun g hg => Below.heap_setCell _ _ _ _ (own_ne h.own h.blk (by decide) g hg)), ownsRow_block h.ownT (fun g hg => Below.heap_setCell _ _ _ _ (own_ne h.ownT h.blk (by decide) g hg)), h.bel.setCell (by show w.heap.size ≤ w.heap.size + 1; omega) _⟩
  rw [blk_set u h.blk, hs]
/-- An item more. -/
theorem LoSt.app {w wr w1 : World} {k l : Nat} {vb vb' vt : Value} {lo hi : Int} {acc acc' : List (Int × Nat)} {T : List Nat} {o : Obj} (h : LoSt w wr k vb vt lo hi acc T) (hown : w1.ownsRow w.heap.size 126 2 vb' l (itCells acc')) (hl : l = acc'.length) (hg : (wr.alloc o).grownBy w1 vb.ownBlock) :
    LoSt w (w1.setCell ⟨w.heap.size + 1, 1, none⟩ vb') k vb' vt lo hi acc' T := by
  subst hl
  have h1 := h.later (below_new_al o)
  have hblk : w1.heap[w.heap.size + 1]? = some (rsBlk k vb vt lo hi false (.slice none 0 0)) := grow_keep h1.own hg h1.blk (by decide)
  have hres : w1.heap[w.heap.size]? = some rsZero := grow_keep h1.own hg h1.res (by decide)
  refine ⟨(Below.heap_setCell _ _ _ _ (by show w.heap.size ≠ w.heap.size + 1; omega)).trans hres, ?_, ownsRow_block hown (fun g e => Below.heap_setCell _ _ _ _ (own_ne hown hblk (by decide) g e)), ?_, ?_⟩
  · have := blk_set (i := 1) vb' hblk
    simpa using this
  · have hT : w1.ownsRow w.heap.size 3 1 vt T.length (ints (nats T)) := ownsRow_block h1.ownT (fun g e => by
      obtain ⟨c, hc⟩ := own_kind h1.ownT e
      rw [grow_keep h1.own hg hc (by decide), hc])
    exact ownsRow_block hT (fun g e => Below.heap_setCell _ _ _ _ (own_ne hT hblk (by decide) g e))
  · exact (h1.bel.grown hg h1.bel.size (fun k e => (h.own.lt _ e).1)).setCell (by show w.heap.size ≤ w.heap.size + 1; omega) _
/-- A level more. -/
theorem LoSt.appT {w wr w1 : World} {k l : Nat} {vb vt vt' : Value} {lo hi : Int} {acc : List (Int × Nat)} {T T' : List Nat} {o : Obj} (h : LoSt w wr k vb vt lo hi acc T) (hown : w1.ownsRow w.heap.size 3 1 vt' l (ints (nats T'))) (hl : l = T'.length) (hg : (wr.alloc o).grownBy w1 vt.ownBlock) :
    LoSt w (w1.setCell ⟨w.heap.size + 1, 2, none⟩ vt') k vb vt' lo hi acc T' := by
  subst hl
  have h1 := h.later (below_new_al o)
  have hblk : w1.heap[w.heap.size + 1]? = some (rsBlk k vb vt lo hi false (.slice none 0 0)) := grow_keep h1.ownT hg h1.blk (by decide)
  have hres : w1.heap[w.heap.size]? = some rsZero := grow_keep h1.ownT hg h1.res (by decide)
  refine ⟨(Below.heap_setCell _ _ _ _ (by show w.heap.size ≠ w.heap.size + 1; omega)).trans hres, ?_, ?_, ownsRow_block hown (fun g e => Below.heap_setCell _ _ _ _ (own_ne hown hblk (by decide) g e)), ?_⟩
  · have := blk_set (i := 2) vt' hblk
    simpa using this
  · have hB : w1.ownsRow w.heap.size 126 2 vb acc.length (itCells acc) := ownsRow_block h1.own (fun g e => by
      obtain ⟨c, hc⟩ := own_kind h1.own e
      rw [grow_keep h1.ownT hg hc (by decide), hc])
    exact ownsRow_block hB (fun g e => Below.heap_setCell _ _ _ _ (own_ne hB hblk (by decide) g e))
  · exact (h1.bel.grown hg h1.bel.size (fun k e => (h.ownT.lt _ e).1)).setCell (by show w.heap.size ≤ w.heap.size + 1; omega) _
theorem LoSt.ownAl {w wr : World} {k l : Nat} {vb vt : Value} {lo hi : Int} {acc : List (Int × Nat)} {T : List Nat} (h : LoSt w wr k vb vt lo hi acc T) (o : Obj) (hl : acc.length = l) : (wr.alloc o).ownsRow w.heap.size 126 2 vb l (itCells acc) := by
  subst hl; exact (h.later (below_new_al o)).own
theorem LoSt.ownTAl {w wr : World} {k l : Nat} {vb vt : Value} {lo hi : Int} {acc : List (Int × Nat)} {T : List Nat} (h : LoSt w wr k vb vt lo hi acc T) (o : Obj) (hl : T.length = l) : (wr.alloc o).ownsRow w.heap.size 3 1 vt l (ints (nats T)) := by
  subst hl; exact (h.later (below_new_al o)).ownT

/-- What loose answers. -/
def LoAns (t : List Nat) (w : World) (e : Ending) (w' : World) : Prop :=
  (¬ lenP t ∧ e = .returned (.tuple #[rsVal 0 (.slice none 0 0) (.slice none 0 0) 0 0 false (.slice none 0 0), .bool false])) ∨
  (lenP t ∧ ∃ bo bl bc tO tl tc, e = .returned (.tuple #[rsVal (toldS t).k (.slice bo bl bc) (.slice tO tl tc) (toldS t).lo (toldS t).hi false (.slice none 0 0), .bool true]) ∧ BagAt w' (.slice bo bl bc) (bagL 0 (toldS t).lv) ∧ Ints w' (.slice tO tl tc) (nats (timesN (toldS t).lv)) ∧ ∀ b, (Value.slice bo bl bc).ownBlock = some b ∨ (Value.slice tO tl tc).ownBlock = some b → w.heap.size ≤ b)

end Go.Proofs.YtklicjbpjigfdabGreat

/- DERIVED. The walk of the document's own loose. -/
namespace Go.Proofs.YtklicjbpjigfdabGreat
open Go.RowKit
attribute [local go_sem ↓] Go.wp_at_zero Go.wp_at_succ

theorem LoAns.no {t : List Nat} {w w' : World} (h : ¬ lenP t) : LoAns t w (.returned (.tuple #[rsVal 0 (.slice none 0 0) (.slice none 0 0) 0 0 false (.slice none 0 0), .bool false])) w' := .inl ⟨h, rfl⟩

theorem LoAns.yes {t : List Nat} {w w' : World} {k : Nat} {L : List Lvl} {lo hi : Int} {bo tO : Option Addr} {bl bc tl tc : Nat} (h : lenP t) (hs : toldS t = ⟨k, L, lo, hi⟩) (hb : BagAt w' (.slice bo bl bc) (bagL 0 L)) (ht : Ints w' (.slice tO tl tc) (nats (timesN L))) (hf : ∀ b, (Value.slice bo bl bc).ownBlock = some b ∨ (Value.slice tO tl tc).ownBlock = some b → w.heap.size ≤ b) :
    LoAns t w (.returned (.tuple #[rsVal k (.slice bo bl bc) (.slice tO tl tc) lo hi false (.slice none 0 0), .bool true])) w' := by
  refine .inr ⟨h, bo, bl, bc, tO, tl, tc, ?_⟩
  rw [hs]
  exact ⟨rfl, hb, ht, hf⟩
theorem LoSt.ret {w wr : World} {k : Nat} {vb vt : Value} {lo hi : Int} {acc : List (Int × Nat)} {T : List Nat} (h : LoSt w wr k vb vt lo hi acc T) (a b c d e f g : Value) : BagAt (((((((wr.setCell ⟨w.heap.size, 0, none⟩ a).setCell ⟨w.heap.size, 1, none⟩ b).setCell ⟨w.heap.size, 2, none⟩ c).setCell ⟨w.heap.size, 3, none⟩ d).setCell ⟨w.heap.size, 4, none⟩ e).setCell ⟨w.heap.size, 5, none⟩ f).setCell ⟨w.heap.size, 6, none⟩ g) vb acc ∧ Ints (((((((wr.setCell ⟨w.heap.size, 0, none⟩ a).setCell ⟨w.heap.size, 1, none⟩ b).setCell ⟨w.heap.size, 2, none⟩ c).setCell ⟨w.heap.size, 3, none⟩ d).setCell ⟨w.heap.size, 4, none⟩ e).setCell ⟨w.heap.size, 5, none⟩ f).setCell ⟨w.heap.size, 6, none⟩ g) vt (nats T) :=
  ⟨BagAt.of (ownsRow_block h.own (fun x hx => set7_other a b c d e f g (own_ne h.own h.res (by decide) x hx))) rfl, Ints.of (ownsRow_block h.ownT (fun x hx => set7_other a b c d e f g (own_ne h.ownT h.res (by decide) x hx)))⟩

set_option maxHeartbeats 4000000 in
set_option maxRecDepth 100000 in
theorem rloose_any (t : ByteArray) (w : World) (ht : t.size ≤ 140737488355328) :
    Calls Tryz.prog 93 #[.string t] w fun e w' => LoAns (bytesOf t) w e w' ∧ Below w.heap.size w w' := by
  have hbl := bytesOf_length t
  have HLP : Hid (lenP (bytesOf t) ↔ (4 ≤ (bytesOf t).length ∧ 1 ≤ (bytesOf t).getD 3 0 ∧ (bytesOf t).getD 3 0 ≤ 29 ∧ 4 + 5 * (bytesOf t).getD 3 0 ≤ (bytesOf t).length ∧ (bytesOf t).length = 4 + 5 * (bytesOf t).getD 3 0 + (if hsum (toldHd ((bytesOf t).getD 3 0) ((bytesOf t).drop 4)) = 0 then 0 else 16) + 8 * hsum (toldHd ((bytesOf t).getD 3 0) ((bytesOf t).drop 4)) + 2)) := Iff.rfl
  have HNU := hid (fun (a n : Nat) (w' : World) (hn : n ≤ 8) (ha : a + n ≤ t.size) => rnumber_any t a n w' hn ha ht)
  rw [hbl] at HLP
  have HZ0 := hid (below_new_al (w := w) rsZero)
  by_cases h4 : t.size < 4
  · have h4' : decide ((t.size : Int) < 4) = true := decide_eq_true (by omega)
    have HNO : Hid (¬ lenP (bytesOf t)) := fun h => by have := HLP.out.1 h; omega
    go_enter Tryz.func93, Tryz.ntmps93
    go_wp2_with fail
    refine bodyPost_ret (v := .tuple #[rsVal 0 (.slice none 0 0) (.slice none 0 0) 0 0 false (.slice none 0 0), .bool false]) (by simp [results, Tryz.results93, go_sem]) rfl ⟨LoAns.no HNO.out, ?_⟩
    first | exact HZ0.out | exact below_set7 HZ0.out (Nat.le_refl _) _ _ _ _ _ _ _
  have h4' : decide ((t.size : Int) < 4) = false := decide_eq_false (by omega)
  have h2t : 2 < t.size := by omega
  have h3t : 3 < t.size := by omega
  have HS0 := hid (LoSt.first w t[2].toNat)
  have HK2 : Hid ((bytesOf t).getD 2 0 = t[2].toNat) := bytesOf_at h2t
  have HK3 : Hid ((bytesOf t).getD 3 0 = t[3].toNat) := bytesOf_at h3t
  rw [HK3.out] at HLP
  have hk2 : t[2].toNat < 256 := t[2].toNat_lt
  have hn3 : t[3].toNat < 256 := t[3].toNat_lt
  go_enter Tryz.func93, Tryz.ntmps93
  go_upto_region 5 with fail
  generalize hn : t[3].toNat = n at *
  have HK3b : Hid ((bytesOf t).getD 3 0 = n) := HK3.out
  generalize hk : t[2].toNat = k at *
  have HK2b : Hid ((bytesOf t).getD 2 0 = k) := HK2.out
  clear HK3 HK2 hn hk
  generalize (w.alloc rsZero).alloc (rsBlk k (.slice none 0 0) (.slice none 0 0) 0 0 false (.slice none 0 0)) = w1 at *
  obtain ⟨r0, r1, r2, r3, r4, r5, r6, rz⟩ := blk7' HS0.out.res
  obtain ⟨c0, c1, c2, c3, c4, c5, c6, cz⟩ := blk7' HS0.out.blk
  have hzr := lt_of_blk' HS0.out.res
  have hzb := lt_of_blk' HS0.out.blk
  by_cases g1 : n < 1
  · have g1' : decide ((n : Int) < 1) = true := decide_eq_true (by omega)
    have HNO : Hid (¬ lenP (bytesOf t)) := fun h => by have := HLP.out.1 h; omega
    go_wp2_with fail
    refine bodyPost_ret (v := .tuple #[rsVal 0 (.slice none 0 0) (.slice none 0 0) 0 0 false (.slice none 0 0), .bool false]) (by simp [results, Tryz.results93, go_sem, r0, r1, r2, r3, r4, r5, r6]) rfl ⟨LoAns.no HNO.out, ?_⟩
    exact below_set7 HS0.out.bel (Nat.le_refl _) _ _ _ _ _ _ _
  have g1' : decide ((n : Int) < 1) = false := decide_eq_false (by omega)
  by_cases g2 : 29 < n
  · have g2' : decide ((29 : Int) < (n : Int)) = true := decide_eq_true (by omega)
    have HNO : Hid (¬ lenP (bytesOf t)) := fun h => by have := HLP.out.1 h; omega
    go_wp2_with fail
    refine bodyPost_ret (v := .tuple #[rsVal 0 (.slice none 0 0) (.slice none 0 0) 0 0 false (.slice none 0 0), .bool false]) (by simp [results, Tryz.results93, go_sem, r0, r1, r2, r3, r4, r5, r6]) rfl ⟨LoAns.no HNO.out, ?_⟩
    exact below_set7 HS0.out.bel (Nat.le_refl _) _ _ _ _ _ _ _
  have g2' : decide ((29 : Int) < (n : Int)) = false := decide_eq_false (by omega)
  by_cases g3 : t.size < 4 + 5 * n
  · have g3' : decide ((t.size : Int) < 4 + 5 * (n : Int)) = true := decide_eq_true (by omega)
    have HNO : Hid (¬ lenP (bytesOf t)) := fun h => by have := HLP.out.1 h; omega
    go_wp2_with fail
    refine bodyPost_ret (v := .tuple #[rsVal 0 (.slice none 0 0) (.slice none 0 0) 0 0 false (.slice none 0 0), .bool false]) (by simp [results, Tryz.results93, go_sem, r0, r1, r2, r3, r4, r5, r6]) rfl ⟨LoAns.no HNO.out, ?_⟩
    exact below_set7 HS0.out.bel (Nat.le_refl _) _ _ _ _ _ _ _
  have g3' : decide ((t.size : Int) < 4 + 5 * (n : Int)) = false := decide_eq_false (by omega)
  have HTA := hid (toldHd_at n ((bytesOf t).drop 4))
  have HTLN := hid (toldHd_length n ((bytesOf t).drop 4))
  have HTBD := hid (toldHd_bd n ((bytesOf t).drop 4) (of_drop (bytesOf_lt t) 4))
  have HTEQ : Hid (toldS (bytesOf t) = toldR k (toldHd n ((bytesOf t).drop 4)) ((bytesOf t).drop (4 + 5 * n))) := by rw [Hid, toldS_eq, HK2b.out, HK3b.out]
  generalize toldHd n ((bytesOf t).drop 4) = hs at *
  clear h4 h4' h2t h3t hk2 hn3 HZ0
  obtain ⟨i1, hi1, hy0, hy1, hy2⟩ := info_parts Tryz.infoItem
  obtain ⟨i0, hi0, hz0, hz1, hz2⟩ := info_parts Tryz.infoInt
  go_wp2_with fail
  clear g1' g2' g3'
  go_loopw [6, 7] (fun st si wr => ∃ (j it : Nat) (tO : Option Addr) (tc : Nat), j ≤ n ∧ it ≤ 255 * j ∧ si = .int .i64 (j : Int) ∧ st = .int .i64 (it : Int) ∧ Hid (it = hsum (hs.take j)) ∧ Hid (LoSt w wr k (.slice none 0 0) (.slice tO j tc) 0 0 [] ((hs.take j).map fun p => p.2))) (fun _ si _ => n - (intOf si).toNat)
  case atStart => exact ⟨0, 0, none, 0, Nat.zero_le _, Nat.zero_le _, rfl, rfl, by simp [Hid, hsum], HS0⟩
  case round =>
    obtain ⟨j, it, tO, tc, hj, hit, rfl, rfl, Hi, Hs⟩ := hrel
    clear r0 r1 r2 r3 r4 r5 r6 rz c0 c1 c2 c3 c4 c5 c6 cz hzr hzb HS0
    obtain ⟨c0, c1, c2, c3, c4, c5, c6, cz⟩ := blk7' Hs.out.blk
    have hzb := lt_of_blk' Hs.out.blk
    by_cases hlt : j < n
    · have hp4 : 4 + 5 * j < t.size := by omega
      have HAT : Hid (hs.getD j (0, 0) = (t[4 + 5 * j].toNat, leV (((bytesOf t).drop (5 + 5 * j)).take 4))) := by
        rw [Hid, HTA.out j hlt, List.drop_drop, leV_one, bytesOf_at hp4, List.drop_drop, show 4 + 5 * j + 1 = 5 + 5 * j by omega]
      have hlt' : j < hs.length := by rw [HTLN.out]; exact hlt
      have HTK : Hid ((hs.take (j + 1)).map (fun p => p.2) = (hs.take j).map (fun p => p.2) ++ [(hs.getD j (0, 0)).2]) := by
        rw [Hid, take_snocP hlt', List.map_append]; rfl
      have HHS := hid (hsum_step hlt')
      have HLN : Hid (((hs.take j).map fun p => p.2).length = j) := by rw [Hid, List.length_map, List.length_take]; omega
      have hb1 : t[4 + 5 * j].toNat < 256 := t[4 + 5 * j].toNat_lt
      have hpb := HTBD.out _ (show hs.getD j (0, 0) ∈ hs by rw [List.getD_eq_getElem?_getD, List.getElem?_eq_getElem hlt']; exact List.getElem_mem hlt')
      rw [HAT.out] at hpb HTK HHS
      have HNUJ := hid (HNU.out (5 + 5 * j) 4 wr (by decide) (by omega))
      simp only at hpb HTK HHS
      generalize leV (((bytesOf t).drop (5 + 5 * j)).take 4) = tv at *
      rw [s64_small (by omega)] at HNUJ
      have HIN : Hid (ints (nats ((hs.take (j + 1)).map fun p => p.2)) = ints (nats ((hs.take j).map fun p => p.2)) ++ [.int .i64 (tv : Int)]) := by
        rw [Hid, HTK.out]; simp [nats, ints]
      have HLN2 : Hid (j + 1 = ((hs.take (j + 1)).map fun p => p.2).length) := by rw [Hid, List.length_map, List.length_take]; omega
      rw [show ((5 + 5 * j : Nat) : Int) = 5 + 5 * (j : Int) by simp] at HNUJ
      clear hpb
      go_wp2_with fail
      refine HNUJ.out.mono ?_
      rintro e w2 ⟨rfl, hw2⟩
      obtain rfl := hw2.symm
      clear hw2
      go_wp2_with (at_builtin; refine wpList_append_lies _ rfl (.tmp 59) (.tmp 61) 28 rfl w.heap.size 3 i0 (.int .i64 0) 1 8 Tryz.underlying28 hi0 hz0 hz1 hz2 rfl (by decide) (.slice tO j tc) j (ints (nats ((hs.take j).map fun p => p.2))) rfl (Hs.out.ownTAl _ HLN.out) ⟨wr.heap.size, 0, none⟩ 1 1 [.int .i64 (tv : Int)] rfl rfl (one_new _ _ _) (one_cell _ _) (by decide) (by unfold maxLen; omega) (by omega) (by have := Hs.out.bel.size; simp; omega) (wr.heap.size + 1) (by simp) ?_; intro g3 cap3 w3 hown3 hgrow3 hat3 hlt3; have HS3 := hid (Hs.out.appT (vt' := .slice (some ⟨g3, 0, none⟩) (j + 1) cap3) (T' := (hs.take (j + 1)).map fun p => p.2) (by rw [HIN.out]; exact hown3) HLN2.out hgrow3); obtain ⟨y0, y1, y2, y3, y4, y5, y6, yz⟩ := blk7' (grow_keep (Hs.out.ownTAl _ HLN.out) hgrow3 ((Below.heap_alloc _ _ _ hzb).trans Hs.out.blk) (by decide)); have hzy := Nat.lt_of_lt_of_le hzb (Nat.le_trans (by simp) hgrow3.size); clear hown3 hgrow3 hat3 hlt3)
      go_roundw
      case rel => exact ⟨j + 1, it + t[4 + 5 * j].toNat, _, _, by omega, by omega, by go_num, by go_num, by rw [Hid, HHS.out, Hi.out], HS3⟩
      case measure => simp [intOf]; omega
    · obtain rfl : n = j := by omega
      have HHA : Hid (hs.take n = hs) := by rw [Hid, List.take_of_length_le (by rw [HTLN.out]; exact Nat.le_refl _)]
      have HIA : Hid (hsum hs = it) := by rw [Hid, Hi.out, HHA.out]
      have HS1 : Hid (LoSt w wr k (.slice none 0 0) (.slice tO n tc) 0 0 [] (hs.map fun p => p.2)) := by have := Hs.out; rw [HHA.out] at this; exact this
      rw [HIA.out] at HLP
      have HSL : Hid (∀ h, hsum (hs.take h) ≤ it) := fun h => by have := hsum_take_le hs h; rw [HIA.out] at this; exact this
      clear Hs Hi hlt c0 c1 c2 c3 c4 c5 c6 cz hzb HHA
      generalize hee : (if it = 0 then 0 else 16 : Nat) = ee at *
      have HEE := hid hee
      have hee2 : ee ≤ 16 := by rw [← hee]; split <;> omega
      clear hee
      go_upto_if 68 with fail
      go_cut [10] from 67 (fun s10 we => s10 = .int .i64 (ee : Int) ∧ we = wr)
      case first =>
        by_cases hi0' : 0 < it
        · have hi0b : decide ((0 : Int) < (it : Int)) = true := decide_eq_true (by omega)
          have HF : Hid (ee = 16) := by rw [Hid, ← HEE.out, if_neg (by omega)]
          go_wp2_with fail
          go_meet
          exact ⟨by rw [HF.out]; rfl, rfl⟩
        · have hi0b : decide ((0 : Int) < (it : Int)) = false := decide_eq_false (by omega)
          have HF : Hid (ee = 0) := by rw [Hid, ← HEE.out, if_pos (by omega)]
          go_wp2_with fail
          go_meet
          exact ⟨by rw [HF.out]; rfl, rfl⟩
      case rest =>
      obtain ⟨rfl, hwd⟩ := hcut
      obtain rfl := hwd.symm
      clear hwd
      obtain ⟨r0, r1, r2, r3, r4, r5, r6, rz⟩ := blk7' HS1.out.res
      have hzr := lt_of_blk' HS1.out.res
      by_cases g5 : ¬ t.size = 4 + 5 * n + ee + 8 * it + 2
      · have g5' : ((t.size : Int) != 4 + 5 * (n : Int) + (ee : Int) + 8 * (it : Int) + 2) = true := by simp; omega
        have HNO : Hid (¬ lenP (bytesOf t)) := fun h => g5 (HLP.out.1 h).2.2.2.2
        go_wp2_with fail
        refine bodyPost_ret (v := .tuple #[rsVal 0 (.slice none 0 0) (.slice none 0 0) 0 0 false (.slice none 0 0), .bool false]) (by simp [results, Tryz.results93, go_sem, r0, r1, r2, r3, r4, r5, r6]) rfl ⟨LoAns.no HNO.out, ?_⟩
        exact below_set7 HS1.out.bel (Nat.le_refl _) _ _ _ _ _ _ _
      replace g5 : t.size = 4 + 5 * n + ee + 8 * it + 2 := Decidable.not_not.1 g5
      have g5' : ((t.size : Int) != 4 + 5 * (n : Int) + (ee : Int) + 8 * (it : Int) + 2) = false := by simp; omega
      have HYES : Hid (lenP (bytesOf t)) := HLP.out.2 ⟨by omega, by omega, by omega, by omega, g5⟩
      generalize hlo : (if it = 0 then 0 else s64 (leV (((bytesOf t).drop (4 + 5 * n)).take 8)) : Int) = lo9 at *
      have HLO := hid hlo
      generalize hhi : (if it = 0 then 0 else s64 (leV (((bytesOf t).drop (4 + 5 * n + 8)).take 8)) : Int) = hi9 at *
      have HHI := hid hhi
      clear hlo hhi
      have HSK : Hid (toldS (bytesOf t) = ⟨k, toldLv hs ((bytesOf t).drop (4 + 5 * n + ee)), lo9, hi9⟩) := by
        rw [Hid, HTEQ.out]
        unfold toldR
        rw [HIA.out, ← HLO.out, ← HHI.out, ← HEE.out]
        by_cases h0 : it = 0
        · rw [if_pos h0, if_pos h0, if_pos h0, if_pos h0, Nat.add_zero]
        · rw [if_neg h0, if_neg h0, if_neg h0, if_neg h0, List.drop_drop, List.drop_drop, List.drop_drop]
      clear r0 r1 r2 r3 r4 r5 r6 rz hzr
      obtain ⟨c0, c1, c2, c3, c4, c5, c6, cz⟩ := blk7' HS1.out.blk
      have hzb := lt_of_blk' HS1.out.blk
      have HG5 := hid g5
      clear g5
      go_upto_if 81 with fail
      clear g5'
      go_cut [] from 80 (fun we => LoSt w we k (.slice none 0 0) (.slice tO n tc) lo9 hi9 [] (hs.map fun p => p.2))
      case first =>
        by_cases hi0' : 0 < it
        · have hi0b : decide ((0 : Int) < (it : Int)) = true := decide_eq_true (by omega)
          have HF1 : Hid (s64 (leV (((bytesOf t).drop (4 + 5 * n)).take 8)) = lo9) := by rw [Hid, ← HLO.out, if_neg (by omega)]
          have HF2 : Hid (s64 (leV (((bytesOf t).drop (4 + 5 * n + 8)).take 8)) = hi9) := by rw [Hid, ← HHI.out, if_neg (by omega)]
          have hee3 : ee = 16 := by rw [← HEE.out, if_neg (by omega)]
          have HN1 := hid (HNU.out (4 + 5 * n) 8 wr (by decide) (by have := HG5.out; omega))
          rw [HF1.out, show ((4 + 5 * n : Nat) : Int) = 4 + 5 * (n : Int) by simp] at HN1
          have HN2 := hid (fun w' => HNU.out (4 + 5 * n + 8) 8 w' (by decide) (by have := HG5.out; omega))
          rw [HF2.out, show ((4 + 5 * n + 8 : Nat) : Int) = 4 + 5 * (n : Int) + 8 by simp] at HN2
          clear hee3
          go_wp2_with fail
          refine HN1.out.mono ?_
          rintro e w2 ⟨rfl, hw2⟩
          obtain rfl := hw2.symm
          clear hw2
          have HS2 := hid (HS1.out.set 3 (.int .i64 lo9) (k' := k) (lo' := lo9) (hi' := 0) rfl rfl (by simp))
          go_upto_region 22 with fail
          clear c0 c1 c2 c3 c4 c5 c6 cz hzb
          generalize wr.setCell ⟨w.heap.size + 1, 3, none⟩ (.int .i64 lo9) = w5 at *
          obtain ⟨c0, c1, c2, c3, c4, c5, c6, cz⟩ := blk7' HS2.out.blk
          have hzb := lt_of_blk' HS2.out.blk
          go_wp2_with fail
          refine (HN2.out _).mono ?_
          rintro e w2 ⟨rfl, hw2⟩
          obtain rfl := hw2.symm
          clear hw2
          have HS3 := hid (HS2.out.set 4 (.int .i64 hi9) (k' := k) (lo' := lo9) (hi' := hi9) rfl rfl (by simp))
          go_wp2_with fail
          go_meet
          exact HS3.out
        · have hi0b : decide ((0 : Int) < (it : Int)) = false := decide_eq_false (by omega)
          have HF1 : Hid (lo9 = 0) := by rw [Hid, ← HLO.out, if_pos (by omega)]
          have HF2 : Hid (hi9 = 0) := by rw [Hid, ← HHI.out, if_pos (by omega)]
          go_wp2_with fail
          go_meet
          rw [HF1.out, HF2.out]
          exact HS1.out
      case rest =>
      have HS2 := hid hcut
      clear hcut HS1 c0 c1 c2 c3 c4 c5 c6 cz hzb HLO HHI HTEQ HLP
      generalize hR : (bytesOf t).drop (4 + 5 * n + ee) = R at *
      have HR := hid hR
      clear hR
      go_wp2_with fail
      go_loopw [9, 11] (fun sa si wr => ∃ (h a q : Nat) (bo : Option Addr) (bc : Nat), h ≤ n ∧ si = .int .i64 (h : Int) ∧ sa = .int .i64 (a : Int) ∧ a = 4 + 5 * n + ee + 8 * q ∧ q ≤ it ∧ Hid (q = hsum (hs.take h)) ∧ Hid (LoSt w wr k (.slice bo q bc) (.slice tO n tc) lo9 hi9 (rdBag hs R h 0) (hs.map fun p => p.2))) (fun _ si _ => n - (intOf si).toNat)
      case atStart => exact ⟨0, 4 + 5 * n + ee, 0, none, 0, Nat.zero_le _, rfl, by simp, by omega, Nat.zero_le _, rfl, HS2⟩
      case round =>
        obtain ⟨h, a, q, bo, bc, hh, rfl, rfl, ha, hq, Hq0, Hs⟩ := hrel
        clear HS2
        by_cases hlt : h < n
        · have hlt' : h < hs.length := by rw [HTLN.out]; exact hlt
          have hp4 : 4 + 5 * h < t.size := by omega
          have HAT : Hid ((hs.getD h (0, 0)).1 = t[4 + 5 * h].toNat) := by
            rw [Hid, HTA.out h hlt, List.drop_drop, leV_one, bytesOf_at hp4]
          have HHS := hid (hsum_step hlt')
          have HNX := hid (rdBag_next (r := R) hlt')
          have hsl := HSL.out (h + 1)
          rw [HHS.out, ← Hq0.out] at hsl
          rw [HAT.out] at HHS HNX hsl
          have hmb : t[4 + 5 * h].toNat < 256 := t[4 + 5 * h].toNat_lt
          go_wp2_with fail
          go_loopw [9, 12] (fun sa si wr => ∃ (i a q2 : Nat) (bo : Option Addr) (bc : Nat), i ≤ t[4 + 5 * h].toNat ∧ si = .int .i64 (i : Int) ∧ sa = .int .i64 (a : Int) ∧ a = 4 + 5 * n + ee + 8 * q2 ∧ q2 = q + i ∧ Hid (LoSt w wr k (.slice bo q2 bc) (.slice tO n tc) lo9 hi9 (rdBag hs R h i) (hs.map fun p => p.2))) (fun _ si _ => t[4 + 5 * h].toNat - (intOf si).toNat)
          case atStart => exact ⟨0, a, q, bo, bc, Nat.zero_le _, rfl, rfl, ha, rfl, Hs⟩
          case round =>
            clear Hs
            obtain ⟨i, a2, q2, bo2, bc2, hi, rfl, rfl, ha2, hq2, Hs⟩ := hrel
            obtain ⟨c0, c1, c2, c3, c4, c5, c6, cz⟩ := blk7' Hs.out.blk
            have hzb := lt_of_blk' Hs.out.blk
            by_cases hli : i < t[4 + 5 * h].toNat
            · have HBS := hid (rdBag_step hs R h i)
              have HQ1 : Hid ((rdBag hs R h i).length = q2) := by rw [Hid, rdBag_length, ← Hq0.out, hq2]
              have HQ2 : Hid ((rdBag hs R h (i + 1)).length = q2 + 1) := by rw [Hid, rdBag_length, ← Hq0.out, hq2]; omega
              have HRX : Hid ((R.drop (8 * (hsum (hs.take h) + i))).take 8 = ((bytesOf t).drop a2).take 8) := by
                rw [Hid, ← HR.out, List.drop_drop, ← Hq0.out, show 4 + 5 * n + ee + 8 * (q + i) = a2 by omega]
              rw [HRX.out] at HBS
              have hab : a2 + 8 ≤ t.size := by have := HG5.out; omega
              have HNUX := hid (HNU.out a2 8 wr (by decide) hab)
              generalize s64 (leV (((bytesOf t).drop a2).take 8)) = x at *
              have hq3 : q2 ≤ 255 * 29 := by omega
              have HA2 := hid ha2
              have HQ3 := hid hq2
              have hl' : decide ((i : Int) < (t[4 + 5 * h].toNat : Int)) = true := decide_eq_true (by omega)
              clear ha2 hq2 ha
              go_wp2_with fail
              refine HNUX.out.mono ?_
              rintro e w2 ⟨rfl, hw2⟩
              obtain rfl := hw2.symm
              clear hw2
              go_wp2_with (at_builtin; refine wpList_append_lies _ rfl (.tmp 113) (.tmp 117) 68 rfl w.heap.size 126 i1 (.agg #[.int .i64 0, .int .i64 0]) 2 16 Tryz.underlying68 hi1 hy0 hy1 hy2 rfl (by decide) (.slice bo2 q2 bc2) q2 (itCells (rdBag hs R h i)) rfl (Hs.out.ownAl _ HQ1.out) ⟨wr.heap.size, 0, none⟩ 1 1 (itCells [(x, h)]) rfl rfl (two_it _ _ _ _) (itCells_one _) (by decide) (by unfold maxLen; omega) (by omega) (by have := Hs.out.bel.size; simp; omega) (wr.heap.size + 1) (by simp) ?_; intro g3 cap3 w3 hown3 hgrow3 hat3 hlt3; have HS3 := hid (Hs.out.app (vb' := .slice (some ⟨g3, 0, none⟩) (q2 + 1) cap3) (acc' := rdBag hs R h (i + 1)) (by rw [HBS.out, itCells_append]; exact hown3) HQ2.out.symm hgrow3); obtain ⟨y0, y1, y2, y3, y4, y5, y6, yz⟩ := blk7' (grow_keep (Hs.out.ownAl _ HQ1.out) hgrow3 ((Below.heap_alloc _ _ _ hzb).trans Hs.out.blk) (by decide)); have hzy := Nat.lt_of_lt_of_le hzb (Nat.le_trans (by simp) hgrow3.size); clear hown3 hgrow3 hat3 hlt3)
              go_roundw
              case rel => exact ⟨i + 1, a2 + 8, q2 + 1, _, _, by omega, by go_num, by go_num, by have := HA2.out; omega, by have := HQ3.out; omega, HS3⟩
              case measure => simp [intOf]; omega
            · have hl' : decide ((i : Int) < (t[4 + 5 * h].toNat : Int)) = false := decide_eq_false (by omega)
              have hie : i = t[4 + 5 * h].toNat := by omega
              have HS4 : Hid (LoSt w wr k (.slice bo2 q2 bc2) (.slice tO n tc) lo9 hi9 (rdBag hs R (h + 1) 0) (hs.map fun p => p.2)) := by
                have := Hs.out
                rw [hie, HNX.out] at this
                exact this
              have HQ4 : Hid (q2 = hsum (hs.take (h + 1))) := by rw [Hid, HHS.out, ← Hq0.out, hq2, hie]
              have HA2 := hid ha2
              have HQ3 := hid hq2
              have HIE := hid hie
              clear hie ha2 hq2 ha
              go_wp2_with fail
              go_roundw
              case rel => exact ⟨h + 1, a2, q2, bo2, bc2, by omega, by go_num, rfl, HA2.out, by have := HQ3.out; have := HIE.out; omega, HQ4, HS4⟩
              case measure => simp [intOf]; omega
        · obtain rfl : n = h := by omega
          obtain ⟨c0, c1, c2, c3, c4, c5, c6, cz⟩ := blk7' Hs.out.blk
          have hzb := lt_of_blk' Hs.out.blk
          obtain ⟨r0, r1, r2, r3, r4, r5, r6, rz⟩ := blk7' Hs.out.res
          have hzr := lt_of_blk' Hs.out.res
          have HFI : Hid (LoSt w wr k (.slice bo q bc) (.slice tO n tc) lo9 hi9 (bagL 0 (toldLv hs R)) (timesN (toldLv hs R))) := by
            have := Hs.out
            rw [rdBag_zero, List.take_of_length_le (by rw [HTLN.out]; exact Nat.le_refl _), ← timesN_told hs R] at this
            exact this
          go_wp2_with fail
          exact bodyPost_ret (v := .tuple #[rsVal k (.slice bo q bc) (.slice tO n tc) lo9 hi9 false (.slice none 0 0), .bool true]) (by simp [results, Tryz.results93, go_sem, r0, r1, r2, r3, r4, r5, r6]) rfl ⟨LoAns.yes HYES.out HSK.out (HFI.out.ret _ _ _ _ _ _ _).1 (HFI.out.ret _ _ _ _ _ _ _).2 (fun b e => e.elim (fun e => (HFI.out.own.lt _ e).1) (fun e => (HFI.out.ownT.lt _ e).1)), below_set7 Hs.out.bel (Nat.le_refl _) _ _ _ _ _ _ _⟩

end Go.Proofs.YtklicjbpjigfdabGreat

/- DERIVED. The walk of the document's own Read. -/
namespace Go.Proofs.YtklicjbpjigfdabGreat
open Go.RowKit
attribute [local go_sem ↓] Go.wp_at_zero Go.wp_at_succ

/-- What Read answers. -/
def RdAns (t : List Nat) (w : World) (e : Ending) (w' : World) : Prop :=
  (isText t = false ∧ ∃ k bo bl bc tO tl tc lo hi, e = .returned (.tuple #[rsVal k (.slice bo bl bc) (.slice tO tl tc) lo hi false (.slice none 0 0), .bool false])) ∨
  (isText t = true ∧ ∃ bo bl bc tO tl tc, e = .returned (.tuple #[rsVal (toldS t).k (.slice bo bl bc) (.slice tO tl tc) (toldS t).lo (toldS t).hi false (.slice none 0 0), .bool true]) ∧ BagAt w' (.slice bo bl bc) (bagL 0 (toldS t).lv) ∧ Ints w' (.slice tO tl tc) (nats (timesN (toldS t).lv)) ∧ ∀ b, (Value.slice bo bl bc).ownBlock = some b ∨ (Value.slice tO tl tc).ownBlock = some b → w.heap.size ≤ b)
theorem RdAns.no {t : List Nat} {w w' : World} {k : Nat} {bo tO : Option Addr} {bl bc tl tc : Nat} {lo hi : Int} (h : isText t = false) : RdAns t w (.returned (.tuple #[rsVal k (.slice bo bl bc) (.slice tO tl tc) lo hi false (.slice none 0 0), .bool false])) w' := .inl ⟨h, _, _, _, _, _, _, _, _, _, rfl⟩
theorem not_text {t : List Nat} (hb : ∀ x ∈ t, x < 256) (h : ¬ (lenP t ∧ standsP (toldS t) ∧ endsP (toldS t) ∧ writeB (srtS (toldS t)) = t)) : isText t = false := by
  cases e : isText t with
  | false => rfl
  | true => exact absurd ((read_is hb).1 e) h

set_option maxHeartbeats 4000000 in
set_option maxRecDepth 100000 in
theorem rread_any (t : ByteArray) (w : World) (ht : t.size ≤ 140737488355328) :
    Calls Tryz.prog 68 #[.string t] w fun e w' => RdAns (bytesOf t) w e w' ∧ Below w.heap.size w w' := by
  have HLO := hid (rloose_any t (w.alloc rsZero) ht)
  have HBT := hid (bytesOf_lt t)
  go_enter Tryz.func68, Tryz.ntmps68
  go_wp2_with fail
  refine HLO.out.mono ?_
  rintro e w1 ⟨hans, hb1⟩
  clear HLO
  have HX1 : Hid (BxB rsZero w w1) := hb1
  obtain ⟨r0, r1, r2, r3, r4, r5, r6, rz⟩ := blk7' HX1.out.box
  have hzr := lt_of_blk' HX1.out.box
  clear hb1
  rcases hans with ⟨hno, rfl⟩ | ⟨hyes, bo, bl, bc, tO, tl, tc, rfl, hB, hT, hf⟩
  · have HNO := hid (not_text HBT.out (fun h => hno h.1))
    have HBN := hid (HX1.out.next (below_new_al (rsBlk 0 (.slice none 0 0) (.slice none 0 0) 0 0 false (.slice none 0 0))))
    clear hno
    go_upto_region 2 with fail
    clear r0 r1 r2 r3 r4 r5 r6 rz hzr
    generalize w1.alloc (rsBlk 0 (.slice none 0 0) (.slice none 0 0) 0 0 false (.slice none 0 0)) = wA at *
    obtain ⟨r0, r1, r2, r3, r4, r5, r6, rz⟩ := blk7' HBN.out.box
    have hzr := lt_of_blk' HBN.out.box
    go_wp2_with fail
    exact bodyPost_ret (v := .tuple #[rsVal 0 (.slice none 0 0) (.slice none 0 0) 0 0 false (.slice none 0 0), .bool false]) (by simp [results, Tryz.results68, go_sem, r0, r1, r2, r3, r4, r5, r6]) rfl ⟨RdAns.no HNO.out, below_set7 HBN.out.bel (Nat.le_refl _) _ _ _ _ _ _ _⟩
  · have hft := toldS_fits HBT.out
    have hlen := toldS_len (bytesOf t)
    have hns := toldS_nsum (bytesOf t)
    have HRI := hid (fun (h : ¬ (lenP (bytesOf t) ∧ standsP (toldS (bytesOf t)) ∧ endsP (toldS (bytesOf t)) ∧ writeB (srtS (toldS (bytesOf t))) = bytesOf t)) => not_text HBT.out h)
    have HRY := hid (fun h1 h2 h3 => (read_is HBT.out).2 ⟨hyes, h1, h2, h3⟩)
    have hn1 : 1 ≤ (toldS (bytesOf t)).lv.length ∧ (toldS (bytesOf t)).lv.length ≤ 29 := by rw [hlen]; exact ⟨hyes.2.1, hyes.2.2.1⟩
    have hnb : nsum (toldS (bytesOf t)).lv ≤ 100000 := by
      have : ∀ L : List Lvl, (∀ l ∈ L, LvFits l) → nsum L ≤ 256 * L.length := fun L => by
        induction L with
        | nil => intro _; simp [nsum]
        | cons l L ih =>
          intro h
          have h1 := (h l (by simp)).1
          have h2 := ih (fun x hx => h x (by simp [hx]))
          simp only [nsum, List.length_cons]
          omega
      have := this _ hft.lv
      omega
    have htm : ∀ j, ((toldS (bytesOf t)).lv.getD j Lvl.none).times ≤ 4294967296 := fun j => by
      by_cases hj : j < (toldS (bytesOf t)).lv.length
      · have := (hft.lv _ (show (toldS (bytesOf t)).lv.getD j Lvl.none ∈ (toldS (bytesOf t)).lv by rw [List.getD_eq_getElem?_getD, List.getElem?_eq_getElem hj]; exact List.getElem_mem hj)).2.1
        omega
      · rw [List.getD_eq_getElem?_getD, List.getElem?_eq_none (by omega)]
        exact Nat.zero_le _
    have hk : (toldS (bytesOf t)).k < 256 := hft.k
    have HSR : Hid (srtS (toldS (bytesOf t)) = ⟨(toldS (bytesOf t)).k, srtV (toldS (bytesOf t)).lv, (toldS (bytesOf t)).lo, (toldS (bytesOf t)).hi⟩) := rfl
    have HSE : Hid (toldS (bytesOf t) = ⟨(toldS (bytesOf t)).k, (toldS (bytesOf t)).lv, (toldS (bytesOf t)).lo, (toldS (bytesOf t)).hi⟩) := rfl
    have HAN : Hid (∀ (w' : World), BagAt w' (.slice bo bl bc) (bagL 0 (toldS (bytesOf t)).lv) → Ints w' (.slice tO tl tc) (nats (timesN (toldS (bytesOf t)).lv)) → isText (bytesOf t) = true → RdAns (bytesOf t) w (.returned (.tuple #[rsVal (toldS (bytesOf t)).k (.slice bo bl bc) (.slice tO tl tc) (toldS (bytesOf t)).lo (toldS (bytesOf t)).hi false (.slice none 0 0), .bool true])) w') := fun w' h1 h2 h3 => .inr ⟨h3, bo, bl, bc, tO, tl, tc, rfl, h1, h2, fun b hb => by have := hf b hb; simp at this; omega⟩
    have HBF : Hid (∀ b, (Value.slice bo bl bc).ownBlock = some b ∨ (Value.slice tO tl tc).ownBlock = some b → w.heap.size + 1 ≤ b) := fun b hb => by have := hf b hb; simpa using this
    have HSTP : Hid (standsP (toldS (bytesOf t)) = standsP ⟨(toldS (bytesOf t)).k, (toldS (bytesOf t)).lv, (toldS (bytesOf t)).lo, (toldS (bytesOf t)).hi⟩) := rfl
    have HENP : Hid (endsP (toldS (bytesOf t)) = endsP ⟨(toldS (bytesOf t)).k, (toldS (bytesOf t)).lv, (toldS (bytesOf t)).lo, (toldS (bytesOf t)).hi⟩) := rfl
    rw [HSR.out, HSTP.out, HENP.out] at HRI HRY
    generalize (toldS (bytesOf t)).k = k at *
    generalize (toldS (bytesOf t)).lv = L at *
    generalize (toldS (bytesOf t)).lo = lo at *
    generalize (toldS (bytesOf t)).hi = hi at *
    have HB := hid hB
    have HT := hid hT
    have HST := hid (fun (w' : World) (hb : Below w1.heap.size w1 w') => rstands_any k (.slice bo bl bc) (.slice tO tl tc) (.slice none 0 0) lo hi false L w' (hB.below hb) (hT.below hb) hnb (by omega) hn1.1 hn1.2 htm)
    have HEN := hid (fun (w' : World) (hb : Below w1.heap.size w1 w') => rendsIn_any k (.slice bo bl bc) (.slice tO tl tc) (.slice none 0 0) lo hi false L w' (hB.below hb) (hT.below hb) hnb hn1.2)
    have HTX := hid (fun (w' : World) (hb : Below w1.heap.size w1 w') => rtext_any (itemsAll (srtV L)) k (.slice bo bl bc) (.slice tO tl tc) (.slice none 0 0) lo hi false (bagL 0 L) (srtV L) w' (hB.below hb) (by rw [srtV_times]; exact hT.below hb) (bagL_srt L) (srtV_ok L) (by rw [bagL_length]; exact hnb) hk (by rw [srtV_length]; omega) (fun j => by rw [srtV_at]; have := htm j; simp only; omega))
    clear hB hT hf hyes hft hlen hns hn1 hnb htm hk HSR HSE HSTP HENP
    have HXA := hid (HX1.out.next (below_new_al (rsBlk k (.slice bo bl bc) (.slice tO tl tc) lo hi false (.slice none 0 0))))
    have HYA := hid (BxB.first (rsBlk k (.slice bo bl bc) (.slice tO tl tc) lo hi false (.slice none 0 0)) w1)
    have HQW : Hid (w.heap.size < w1.heap.size) := hzr
    go_upto_region 2 with fail
    clear r0 r1 r2 r3 r4 r5 r6 rz hzr
    generalize w1.alloc (rsBlk k (.slice bo bl bc) (.slice tO tl tc) lo hi false (.slice none 0 0)) = wA at *
    obtain ⟨c0, c1, c2, c3, c4, c5, c6, cz⟩ := blk7' HYA.out.box
    have hzb := lt_of_blk' HYA.out.box
    go_wp2_with fail
    refine (HST.out _ HYA.out.bel).mono ?_
    rintro e w2 ⟨⟨b1, rfl, hs1⟩, hb2⟩
    have HX2 := hid (HXA.out.next hb2)
    have HY2 := hid (HYA.out.next hb2)
    have HS1 := hid hs1
    clear hb2 hs1 HST HXA HYA c0 c1 c2 c3 c4 c5 c6 cz hzb
    obtain ⟨c0, c1, c2, c3, c4, c5, c6, cz⟩ := blk7' HY2.out.box
    have hzb := lt_of_blk' HY2.out.box
    go_wp2_with fail
    refine (HEN.out _ HY2.out.bel).mono ?_
    rintro e w3 ⟨⟨b2, rfl, hs2⟩, hb3⟩
    have HX3 := hid (HX2.out.next hb3)
    have HY3 := hid (HY2.out.next hb3)
    have HS2 := hid hs2
    clear hb3 hs2 HEN HX2 HY2 c0 c1 c2 c3 c4 c5 c6 cz hzb
    obtain ⟨c0, c1, c2, c3, c4, c5, c6, cz⟩ := blk7' HY3.out.box
    have hzb := lt_of_blk' HY3.out.box
    obtain ⟨r0, r1, r2, r3, r4, r5, r6, rz⟩ := blk7' HX3.out.box
    have hzr := lt_of_blk' HX3.out.box
    cases b1 with
    | false =>
      have HNO := hid (HRI.out (fun h => by have := HS1.out.2 h.2.1; cases this))
      clear c0 c1 c2 c3 c4 c5 c6 cz hzb
      go_wp2_with fail
      exact bodyPost_ret (v := .tuple #[rsVal 0 (.slice none 0 0) (.slice none 0 0) 0 0 false (.slice none 0 0), .bool false]) (by simp [results, Tryz.results68, go_sem, r0, r1, r2, r3, r4, r5, r6]) rfl ⟨RdAns.no HNO.out, below_set7 HX3.out.bel (Nat.le_refl _) _ _ _ _ _ _ _⟩
    | true =>
      cases b2 with
      | false =>
        have HNO := hid (HRI.out (fun h => by have := HS2.out.2 h.2.2.1; cases this))
        clear c0 c1 c2 c3 c4 c5 c6 cz hzb
        go_wp2_with fail
        exact bodyPost_ret (v := .tuple #[rsVal 0 (.slice none 0 0) (.slice none 0 0) 0 0 false (.slice none 0 0), .bool false]) (by simp [results, Tryz.results68, go_sem, r0, r1, r2, r3, r4, r5, r6]) rfl ⟨RdAns.no HNO.out, below_set7 HX3.out.bel (Nat.le_refl _) _ _ _ _ _ _ _⟩
      | true =>
        clear r0 r1 r2 r3 r4 r5 r6 rz hzr
        go_wp2_with fail
        refine (HTX.out _ HY3.out.bel).mono ?_
        rintro e w4 ⟨rfl, hb4⟩
        have HX4 := hid (HX3.out.next hb4)
        have HY4 := hid (HY3.out.next hb4)
        clear hb4 HTX HX3 HY3 c0 c1 c2 c3 c4 c5 c6 cz hzb
        obtain ⟨c0, c1, c2, c3, c4, c5, c6, cz⟩ := blk7' HY4.out.box
        have hzb := lt_of_blk' HY4.out.box
        obtain ⟨r0, r1, r2, r3, r4, r5, r6, rz⟩ := blk7' HX4.out.box
        have hzr := lt_of_blk' HX4.out.box
        have hne : ¬ w1.heap.size = w.heap.size := by have := HQW.out; omega
        have HTE := hid (txt_eq (t := t) (writeB_lt ⟨k, srtV L, lo, hi⟩))
        by_cases heq : txt (writeB ⟨k, srtV L, lo, hi⟩) = t
        · have heq' := bl_yes heq
          have HY := hid (HRY.out (HS1.out.1 (by trivial)) (HS2.out.1 (by trivial)) (HTE.out.1 heq))
          have HB4 := hid (HB.out.below HY4.out.bel)
          have HT4 := hid (HT.out.below HY4.out.bel)
          generalize txt (writeB ⟨k, srtV L, lo, hi⟩) = tx at *
          clear heq
          go_wp2_with fail
          refine bodyPost_ret (v := .tuple #[rsVal k (.slice bo bl bc) (.slice tO tl tc) lo hi false (.slice none 0 0), .bool true]) (by simp [results, Tryz.results68, go_sem, r0, r1, r2, r3, r4, r5, r6]) rfl ⟨HAN.out _ ?_ ?_ HY.out, below_set7 HX4.out.bel (Nat.le_refl _) _ _ _ _ _ _ _⟩
          · exact ownsRow_block HB4.out (fun g hg => set7_other _ _ _ _ _ _ _ (by have := HBF.out g (.inl hg); omega))
          · exact ownsRow_block HT4.out (fun g hg => set7_other _ _ _ _ _ _ _ (by have := HBF.out g (.inr hg); omega))
        · have heq' := bl_no heq
          have HNO := hid (HRI.out (fun h => heq (HTE.out.2 h.2.2.2)))
          generalize txt (writeB ⟨k, srtV L, lo, hi⟩) = tx at *
          clear heq
          go_wp2_with fail
          exact bodyPost_ret (v := .tuple #[rsVal k (.slice bo bl bc) (.slice tO tl tc) lo hi false (.slice none 0 0), .bool false]) (by simp [results, Tryz.results68, go_sem, r0, r1, r2, r3, r4, r5, r6]) rfl ⟨RdAns.no HNO.out, below_set7 HX4.out.bel (Nat.le_refl _) _ _ _ _ _ _ _⟩

end Go.Proofs.YtklicjbpjigfdabGreat
