/- DERIVED. The walk of Quantile: the least number, the greatest, or the least item whose rank suffices. -/
import Derived.Test.YtklicjbpjigfdabGreatRankW
import Derived.Test.YtklicjbpjigfdabGreatQ6
import Derived.Test.YtklicjbpjigfdabGreatQ16
import Derived.Test.YtklicjbpjigfdabGreatQ5
namespace Go.Proofs.YtklicjbpjigfdabGreat
open Go.RowKit
variable {F : Nat → Prop}

/-- The best so far: it will do; of those that were looked at none below it will. -/
structure Best (L : List Lvl) (r : Nat) (hi b : Int) (done : Int → Prop) : Prop where
  le : b ≤ hi
  good : b = hi ∨ ((∃ j, j < L.length ∧ b ∈ (L.getD j Lvl.none).items) ∧ r ≤ usum b L)
  none : ∀ y, done y → y < b → usum y L < r
/-- The items of the levels below j. -/
def doneL (L : List Lvl) (j : Nat) (y : Int) : Prop := ∃ t, t < j ∧ y ∈ (L.getD t Lvl.none).items
def doneI (L : List Lvl) (j t : Nat) (y : Int) : Prop := doneL L j y ∨ y ∈ (L.getD j Lvl.none).items.take t

theorem getD_get {l : List Int} {t : Nat} (h : t < l.length) : l.getD t 0 = l[t] := by simp [List.getD, h]

theorem Best.keep {L : List Lvl} {r : Nat} {hi b : Int} {d d' : Int → Prop} (h : Best L r hi b d) (hd : ∀ y, d' y → d y ∨ ¬ y < b ∨ usum y L < r) : Best L r hi b d' := by
  refine ⟨h.le, h.good, fun y hy hb => ?_⟩
  rcases hd y hy with h1 | h1 | h1
  · exact h.none y h1 hb
  · exact absurd hb h1
  · exact h1
theorem doneI_succ {L : List Lvl} {j t : Nat} (ht : t < (L.getD j Lvl.none).items.length) {y : Int} (h : doneI L j (t + 1) y) : doneI L j t y ∨ y = (L.getD j Lvl.none).items.getD t 0 := by
  rcases h with h | h
  · exact .inl (.inl h)
  · rw [List.take_succ_eq_append_getElem ht] at h
    rcases List.mem_append.1 h with h | h
    · exact .inl (.inr h)
    · right
      have : y = (L.getD j Lvl.none).items[t] := by simpa using h
      rw [this]; exact (getD_get ht).symm
theorem Best.miss {L : List Lvl} {r j t : Nat} {hi b : Int} (h : Best L r hi b (doneI L j t)) (ht : t < (L.getD j Lvl.none).items.length) (hn : ¬ ((L.getD j Lvl.none).items.getD t 0 < b ∧ r ≤ usum ((L.getD j Lvl.none).items.getD t 0) L)) : Best L r hi b (doneI L j (t + 1)) := by
  refine h.keep (fun y hy => ?_)
  rcases doneI_succ ht hy with e | e
  · exact .inl e
  · right
    rw [e]
    by_cases hb : (L.getD j Lvl.none).items.getD t 0 < b
    · right
      exact Nat.lt_of_not_le (fun h9 => hn ⟨hb, h9⟩)
    · exact .inl hb
theorem Best.hit {L : List Lvl} {r j t : Nat} {hi b : Int} (h : Best L r hi b (doneI L j t)) (hj : j < L.length) (ht : t < (L.getD j Lvl.none).items.length) (h1 : (L.getD j Lvl.none).items.getD t 0 < b) (h2 : r ≤ usum ((L.getD j Lvl.none).items.getD t 0) L) : Best L r hi ((L.getD j Lvl.none).items.getD t 0) (doneI L j (t + 1)) := by
  refine ⟨by have := h.le; omega, .inr ⟨⟨j, hj, ?_⟩, h2⟩, fun y hy hb => ?_⟩
  · have : (L.getD j Lvl.none).items.getD t 0 = (L.getD j Lvl.none).items[t] := getD_get ht
    rw [this]; exact List.getElem_mem ht
  · rcases doneI_succ ht hy with e | e
    · exact h.none y e (by omega)
    · omega
theorem Best.next {L : List Lvl} {r j : Nat} {hi b : Int} (h : Best L r hi b (doneI L j (L.getD j Lvl.none).items.length)) : Best L r hi b (doneL L (j + 1)) := by
  refine h.keep (fun y hy => .inl ?_)
  obtain ⟨t, ht, hm⟩ := hy
  by_cases e : t = j
  · subst e; right; rw [List.take_length]; exact hm
  · exact .inl ⟨t, by omega, hm⟩

/-- What Quantile tells. -/
def QPost (L : List Lvl) (lo hi : Int) (r : Nat) (x : Int) : Prop := if r = 1 then x = lo else if r = wsum L then x = hi else Best L r hi x (doneL L L.length)

set_option maxHeartbeats 2000000 in
set_option maxRecDepth 100000 in
theorem skQuant_any (k g cap r : Nat) (lo hi : Int) (vs : List Value) (L : List Lvl) (w : World) (hL : LvAt F w g cap vs L) (hs : ∀ j, j < L.length → Srt (L.getD j Lvl.none).items) (hlen : L.length ≤ 30) (hbd : wsum L ≤ 1099511627776) (hr : r ≤ 1099511627776) :
    Calls Tryz.prog 77 #[skVal k g L.length cap lo hi, .int .i64 (r : Int)] w fun e w' => ∃ x, e = .returned (.int .i64 x) ∧ QPost L lo hi r x ∧ Below w.heap.size w w' := by
  have HU := hid (fun (x : Int) (w' : World) (hb : Below w.heap.size w w') => skUpTo_any k g cap lo hi x vs L w' (hL.below hb) hs hlen hbd)
  have HC := hid (fun (w' : World) (hb : Below w.heap.size w w') => count_any k g cap lo hi vs L w' (hL.below hb) hlen hbd)
  have HUB := hid (fun (x : Int) => usum_le x L)
  obtain ⟨n, hn⟩ : ∃ n, n = L.length := ⟨_, rfl⟩
  have HN := hid hn
  rw [← hn] at HU HC ⊢ hlen
  have HLV := hid hL
  clear hn hs hL
  go_enter Tryz.func77, Tryz.ntmps77
  by_cases h1 : r = 1
  · subst h1
    go_wp2_with fail
    go_ret
    exact ⟨lo, rfl, by unfold QPost; rw [if_pos rfl], (Below.refl _ _).alloc (Nat.le_refl _) _⟩
  · have h1' : ((r : Int) == 1) = false := by simp; omega
    have H1 := hid h1
    clear h1
    go_wp2_with fail
    have hbA : Below w.heap.size w (w.alloc (.cells #[.int .i64 (k : Int), .slice (some ⟨g, 0, none⟩) n cap, .int .i64 lo, .int .i64 hi] 64)) := (Below.refl w.heap.size w).alloc (Nat.le_refl _) _
    refine (HC.out _ hbA).mono ?_
    rintro e w1 ⟨rfl, hb1⟩
    have hk1 := below_new hb1 (by simp)
    have HB1 : Hid (Below w.heap.size w w1) := hbA.trans (hb1.mono hbA.size)
    have hsz1 : w.heap.size < w1.heap.size := lt_of_blk' hk1
    have HK1 := hid hk1
    obtain ⟨e0, e1, e2, e3, ez⟩ := blk4 hk1
    clear hb1 hbA hk1 HC
    by_cases h2 : r = wsum L
    · have h2' : ((r : Int) == (wsum L : Int)) = true := by simp [h2]
      have H2 := hid h2
      clear h2
      go_wp2_with fail
      go_ret
      exact ⟨hi, rfl, by unfold QPost; rw [if_neg H1.out, if_pos H2.out], HB1.out⟩
    · have h2' : ((r : Int) == (wsum L : Int)) = false := by simp; omega
      have H2 := hid h2
      clear h2
      go_wp2_with fail
      go_loopw [5, 24] (fun sb si wr => ∃ (j : Nat) (b : Int), j ≤ n ∧ si = .int .i64 j ∧ sb = .int .i64 b ∧ Hid (Best L r hi b (doneL L j)) ∧ Hid (Below w1.heap.size w1 wr)) (fun _ si _ => n - (intOf si).toNat)
      case atStart => exact ⟨0, hi, Nat.zero_le _, rfl, rfl, ⟨Int.le_refl _, .inl rfl, fun y hy => by obtain ⟨t, ht, _⟩ := hy; omega⟩, Below.refl _ _⟩
      case round =>
        obtain ⟨j, b, hj, rfl, rfl, Hbest, Hb⟩ := hrel
        obtain ⟨wo, hwo⟩ : ∃ wo, wo = wr := ⟨wr, rfl⟩
        subst hwo
        by_cases hlt : j < n
        · have hltL : j < L.length := by rw [← HN.out]; exact hlt
          have hbw : Below w.heap.size w wo := HB1.out.trans (Hb.out.mono HB1.out.size)
          have hLr := HLV.out.below hbw
          obtain ⟨ao, cc, ev, hcl, hcm, hno, hso⟩ := (hLr.its j hltL).form
          have c0 := hLr.cell0 hltL
          rw [ev] at c0
          have c1 := hLr.cell1 hltL
          have HNO := hid hno
          have HSO := hid hso
          have hil : (L.getD j Lvl.none).items.length ≤ 1099511627776 := by have := nsum_at hltL; have := nsum_le L; omega
          have hgz : g < wo.heap.size := hLr.lt
          have HBW := hid hbw
          generalize hits : (L.getD j Lvl.none).items = its at *
          have HIT := hid hits
          generalize hm : its.length = m at *
          have HM := hid hm
          generalize (L.getD j Lvl.none).times = tm at *
          have hs1 : (0 : Int) ≤ (j : Int) := by omega
          have hs2 : (j : Int) < (n : Int) := by omega
          have hwoz : w.heap.size < wo.heap.size := by have := Hb.out.size; omega
          clear hLr ev hno hso hbw hits hm
          go_wp2_with fail
          have hB5 : Below wo.heap.size wo (wo.alloc (.cells #[.slice ao m cc, .int .i64 (tm : Int)] 140)) := (Below.refl _ _).alloc (Nat.le_refl _) _
          go_loopw [5, 31] (fun sb si wr => ∃ (t : Nat) (b : Int), t ≤ m ∧ si = .int .i64 t ∧ sb = .int .i64 b ∧ Hid (Best L r hi b (doneI L j t)) ∧ Hid (Below wo.heap.size wo wr)) (fun _ si _ => m - (intOf si).toNat)
          case atStart => exact ⟨0, b, Nat.zero_le _, rfl, rfl, Hbest.out.keep (fun y hy => .inl (by rcases hy with h | h; exact h; simp at h)), hB5⟩
          case round =>
            clear Hbest
            obtain ⟨t, b2, ht, rfl, rfl, Hbest, Hb2⟩ := hrel
            by_cases htm : t < m
            · obtain ⟨gc, rfl⟩ : ∃ g, ao = some ⟨g, 0, none⟩ := by
                cases ao with
                | none => have h9 := (HNO.out rfl).1; have h8 := HM.out; rw [h9] at h8; simp at h8; omega
                | some a => obtain ⟨g, rfl, _⟩ := HSO.out a rfl; exact ⟨g, rfl⟩
              obtain ⟨gc', e9, hgc, hcc⟩ := HSO.out _ rfl
              cases e9
              have hcell : wr.cell? ⟨gc, t, none⟩ = some (.int .i64 (its.getD t 0)) := (Hb2.out.cell (by exact hgc)).trans (hcc t htm)
              have hbw2 : Below w.heap.size w wr := HBW.out.trans (Hb2.out.mono HBW.out.size)
              have hkb := (Hb2.out.block w.heap.size hwoz).trans ((Hb.out.block w.heap.size hsz1).trans HK1.out)
              obtain ⟨f0, f1, f2, f3, fz⟩ := blk4 hkb
              have HMS := hid (fun hn => Hbest.out.miss (by rw [HIT.out, HM.out]; exact htm) hn)
              have HHT := hid (fun h1 h2 => Hbest.out.hit hltL (by rw [HIT.out, HM.out]; exact htm) h1 h2)
              rw [HIT.out] at HMS HHT
              have hs3 : (0 : Int) ≤ (t : Int) := by omega
              have hs4 : (t : Int) < (m : Int) := by omega
              generalize its.getD t 0 = y at *
              have HUP := hid (HU.out y wr hbw2)
              have huy := HUB.out y
              clear hcc hkb hbw2 c0 c1
              by_cases hy : y < b2
              · have hy' : decide (y < b2) = true := decide_eq_true hy
                generalize usum y L = uy at *
                by_cases hg : r ≤ uy
                · have hg' : decide ((r : Int) ≤ (uy : Int)) = true := decide_eq_true (by omega)
                  go_wp2_with (first | (go_at_call 100; refine HUP.out.mono ?_; rintro e w5 ⟨rfl, hb5⟩; have HB5 := hid hb5; clear hb5))
                  go_roundw
                  case rel => exact ⟨t + 1, y, by omega, by go_num, rfl, HHT.out hy hg, Hb2.out.trans (HB5.out.mono Hb2.out.size)⟩
                  case measure => simp [intOf]; omega
                · have hg' : decide ((r : Int) ≤ (uy : Int)) = false := decide_eq_false (by omega)
                  have HG := hid hg
                  go_wp2_with (first | (go_at_call 100; refine HUP.out.mono ?_; rintro e w5 ⟨rfl, hb5⟩; have HB5 := hid hb5; clear hb5))
                  go_roundw
                  case rel => exact ⟨t + 1, b2, by omega, by go_num, rfl, HMS.out (fun h9 => HG.out h9.2), Hb2.out.trans (HB5.out.mono Hb2.out.size)⟩
                  case measure => simp [intOf]; omega
              · have hy' : decide (y < b2) = false := decide_eq_false hy
                have HY := hid hy
                go_wp2_with fail
                go_roundw
                case rel => exact ⟨t + 1, b2, by omega, by go_num, rfl, HMS.out (fun h9 => HY.out h9.1), Hb2⟩
                case measure => simp [intOf]; omega
            · obtain rfl : t = m := by omega
              have HX : Hid (Best L r hi b2 (doneL L (j + 1))) := by
                have h9 := Hbest.out
                rw [← HM.out, ← HIT.out] at h9
                exact h9.next
              go_wp2_with fail
              go_roundw
              case rel => exact ⟨j + 1, b2, by omega, by go_num, rfl, HX, Hb.out.trans (Hb2.out.mono Hb.out.size)⟩
              case measure => simp [intOf]; omega
        · obtain rfl : j = n := by omega
          go_wp2_with fail
          go_ret
          refine ⟨b, rfl, ?_, HB1.out.trans (Hb.out.mono HB1.out.size)⟩
          unfold QPost
          rw [if_neg H1.out, if_neg H2.out, ← HN.out]
          exact Hbest.out

end Go.Proofs.YtklicjbpjigfdabGreat

/- DERIVED. Plain mathematics: the items up to a number. -/
namespace Go.Proofs.YtklicjbpjigfdabGreat
open Go.RowKit

/-- All items. -/
def itemsAll : List Lvl → List Int
  | [] => []
  | l :: L => l.items ++ itemsAll L
theorem mem_itemsAll {y : Int} : ∀ {L : List Lvl}, y ∈ itemsAll L ↔ ∃ j, j < L.length ∧ y ∈ (L.getD j Lvl.none).items
  | [] => by simp [itemsAll]
  | l :: L => by
    rw [itemsAll, List.mem_append, mem_itemsAll (L := L)]
    constructor
    · rintro (h | ⟨j, hj, h⟩)
      · exact ⟨0, by simp, by simpa using h⟩
      · exact ⟨j + 1, by simpa using hj, by simpa using h⟩
    · rintro ⟨j, hj, h⟩
      cases j with
      | zero => exact .inl (by simpa using h)
      | succ j => exact .inr ⟨j, by simpa using hj, by simpa using h⟩
theorem cnt_congr {p q : Int} {l : List Int} (h : ∀ z ∈ l, z ≤ p ↔ z ≤ q) : cnt p l = cnt q l := by
  unfold cnt
  refine List.countP_congr (fun z hz => ?_)
  have := h z hz
  simpa using this
theorem usum_congr {p q : Int} : ∀ {L : List Lvl}, (∀ z ∈ itemsAll L, z ≤ p ↔ z ≤ q) → usum p L = usum q L
  | [], _ => rfl
  | l :: L, h => by
    rw [usum, usum, cnt_congr (fun z hz => h z (by rw [itemsAll]; exact List.mem_append.2 (.inl hz))), usum_congr (L := L) (fun z hz => h z (by rw [itemsAll]; exact List.mem_append.2 (.inr hz)))]
theorem usum_none {q : Int} : ∀ {L : List Lvl}, (∀ z ∈ itemsAll L, q < z) → usum q L = 0
  | [], _ => rfl
  | l :: L, h => by
    rw [usum, cnt_zero (fun z hz => h z (by rw [itemsAll]; exact List.mem_append.2 (.inl hz))), usum_none (L := L) (fun z hz => h z (by rw [itemsAll]; exact List.mem_append.2 (.inr hz)))]
/-- The greatest of those that are at most q. -/
theorem exists_top (q : Int) : ∀ l : List Int, (∀ z ∈ l, q < z) ∨ ∃ y ∈ l, y ≤ q ∧ ∀ z ∈ l, z ≤ q → z ≤ y
  | [] => .inl (fun z hz => by simp at hz)
  | x :: l => by
    by_cases hx : x ≤ q
    · right
      rcases exists_top q l with h | ⟨y, hy, hq, hm⟩
      · refine ⟨x, by simp, hx, fun z hz hzq => ?_⟩
        rcases List.mem_cons.1 hz with rfl | hz
        · exact Int.le_refl _
        · have := h z hz; omega
      · by_cases hxy : x ≤ y
        · refine ⟨y, by simp [hy], hq, fun z hz hzq => ?_⟩
          rcases List.mem_cons.1 hz with rfl | hz
          · exact hxy
          · exact hm z hz hzq
        · refine ⟨x, by simp, hx, fun z hz hzq => ?_⟩
          rcases List.mem_cons.1 hz with rfl | hz
          · exact Int.le_refl _
          · have := hm z hz hzq; omega
    · rcases exists_top q l with h | ⟨y, hy, hq, hm⟩
      · left
        intro z hz
        rcases List.mem_cons.1 hz with rfl | hz
        · omega
        · exact h z hz
      · right
        refine ⟨y, by simp [hy], hq, fun z hz hzq => ?_⟩
        rcases List.mem_cons.1 hz with rfl | hz
        · exact absurd hzq hx
        · exact hm z hz hzq
/-- If no item below x will do, x - 1 will not. -/
theorem usum_below {L : List Lvl} {r : Nat} {x : Int} (hr : 1 ≤ r) (h : ∀ y, doneL L L.length y → y < x → usum y L < r) : usum (x - 1) L < r := by
  rcases exists_top (x - 1) (itemsAll L) with h0 | ⟨y, hy, hq, hm⟩
  · rw [usum_none h0]; omega
  · have e : usum (x - 1) L = usum y L := usum_congr (fun z hz => ⟨fun hz1 => hm z hz hz1, fun hz1 => by omega⟩)
    rw [e]
    obtain ⟨j, hj, hm2⟩ := mem_itemsAll.1 hy
    exact h y ⟨j, hj, hm2⟩ (by omega)

end Go.Proofs.YtklicjbpjigfdabGreat

/- DERIVED. Quantile: what the program finds is the least item whose rank suffices. -/
namespace Go.Proofs.YtklicjbpjigfdabGreat

theorem usum_full {q : Int} : ∀ {L : List Lvl}, (∀ z ∈ itemsAll L, z ≤ q) → usum q L = wsum L
  | [], _ => rfl
  | l :: L, h => by
    rw [usum, wsum, usum_full (L := L) (fun z hz => h z (by rw [itemsAll]; exact List.mem_append.2 (.inr hz)))]
    have e : cnt q l.items = l.items.length := List.countP_eq_length.2 (fun z hz => by simpa using h z (by rw [itemsAll]; exact List.mem_append.2 (.inl hz)))
    rw [e]
theorem best_least {L : List Lvl} {r : Nat} {hi x : Int} (hr1 : 1 ≤ r) (hr2 : r ≤ wsum L) (hhi : ∀ z ∈ itemsAll L, z ≤ hi) (hb : Best L r hi x (doneL L L.length)) :
    x ∈ itemsAll L ∧ r ≤ usum x L ∧ ∀ y ∈ itemsAll L, r ≤ usum y L → x ≤ y := by
  have hmin : ∀ y ∈ itemsAll L, r ≤ usum y L → x ≤ y := fun y hy h => by
    rcases Int.lt_or_le y x with h1 | h1
    · have := hb.none y (mem_itemsAll.1 hy) h1
      omega
    · exact h1
  rcases hb.good with rfl | ⟨h1, h2⟩
  · rcases exists_top x (itemsAll L) with h | ⟨y, hy, hyx, _⟩
    · have := usum_none h
      have := usum_full hhi
      omega
    · have hall := usum_full hhi
      rcases exists_top x (itemsAll L) with h | ⟨m, hm, hmx, hmm⟩
      · have := h y hy; omega
      · have hfm : usum m L = wsum L := usum_full (fun z hz => hmm z hz (hhi z hz))
        have h3 := hmin m hm (by omega)
        have h4 : m = x := by omega
        subst h4
        exact ⟨hm, by omega, hmin⟩
  · exact ⟨mem_itemsAll.2 h1, h2, hmin⟩
theorem bag_items {bag : List (Int × Nat)} {L : List Lvl} (h : BagOf bag L) (y : Int) : y ∈ itemsAll L ↔ ∃ z ∈ bag, z.1 = y := by
  rw [mem_itemsAll]
  constructor
  · rintro ⟨j, _, hm⟩
    obtain ⟨z, hz, e⟩ := List.mem_map.1 ((h j).symm.subset hm)
    exact ⟨z, (List.mem_filter.1 hz).1, e⟩
  · rintro ⟨z, hz, rfl⟩
    refine ⟨z.2, h.lt z hz, (h z.2).subset (List.mem_map.2 ⟨z, List.mem_filter.2 ⟨hz, by simp⟩, rfl⟩)⟩
/-- Two least ones are one. -/
theorem least_one {P : Int → Prop} {x y : Int} (hx : P x) (hy : P y) (h1 : ∀ z, P z → x ≤ z) (h2 : ∀ z, P z → y ≤ z) : x = y := Int.le_antisymm (h1 y hy) (h2 x hx)

end Go.Proofs.YtklicjbpjigfdabGreat

/- DERIVED. What Split tells: plain mathematics. -/
namespace Go.Proofs.YtklicjbpjigfdabGreat
open Go.RowKit

/-- Numbers of a list that was handed in, wherever it lies. -/
def IntsG (w : World) (ao : Option Addr) (n : Nat) (C : List Int) : Prop := C.length = n ∧ ∀ i, i < n → ∃ b off, ao = some ⟨b, off, none⟩ ∧ b < w.heap.size ∧ w.cell? ⟨b, off + i, none⟩ = some (.int .i64 (C.getD i 0))
theorem IntsG.below {w w' : World} {ao : Option Addr} {n : Nat} {C : List Int} (h : IntsG w ao n C) (hb : Below w.heap.size w w') : IntsG w' ao n C :=
  ⟨h.1, fun i hi => by
    obtain ⟨b, off, e, hz, hc⟩ := h.2 i hi
    exact ⟨b, off, e, Nat.lt_of_lt_of_le hz hb.size, (hb.cell (p := ⟨b, off + i, none⟩) hz).trans hc⟩⟩
/-- Do the cuts rise? -/
def CutsUp (C : List Int) : Prop := ∀ t, t + 1 < C.length → C.getD t 0 < C.getD (t + 1) 0
/-- What weighs up to cut j. -/
def upAt (L : List Lvl) (C : List Int) (j : Nat) : Nat := if j < C.length then usum (C.getD j 0) L else wsum L
/-- The part at cut j. -/
def partAt (L : List Lvl) (C : List Int) (j : Nat) : Nat := upAt L C j - (if j = 0 then 0 else upAt L C (j - 1))
/-- All parts. -/
def partsOf (L : List Lvl) (C : List Int) : List Int := (List.range (C.length + 1)).map fun j => (partAt L C j : Int)
def partsTo (L : List Lvl) (C : List Int) (j : Nat) : List Int := (List.range j).map fun j => (partAt L C j : Int)
theorem partsTo_all (L : List Lvl) (C : List Int) : partsTo L C (C.length + 1) = partsOf L C := rfl
theorem partsTo_succ (L : List Lvl) (C : List Int) (j : Nat) : partsTo L C (j + 1) = partsTo L C j ++ [(partAt L C j : Int)] := by simp [partsTo, List.range_succ]
theorem partsTo_length (L : List Lvl) (C : List Int) (j : Nat) : (partsTo L C j).length = j := by simp [partsTo]

theorem btw_cons (p : Int → Bool) (z : Int × Nat) (bag : List (Int × Nat)) : btw p (z :: bag) = (if p z.1 then 2 ^ z.2 else 0) + btw p bag := by
  unfold btw
  by_cases hp : p z.1 = true
  · simp [hp]
  · simp [hp]
theorem btw_split {p q r : Int → Bool} (h : ∀ x, (if r x then 1 else 0) = (if p x then 1 else 0) + (if q x then (1 : Nat) else 0)) : ∀ bag, btw r bag = btw p bag + btw q bag
  | [] => rfl
  | z :: bag => by
    rw [btw_cons, btw_cons, btw_cons, btw_split h bag]
    have := h z.1
    cases hr : r z.1 <;> cases hp : p z.1 <;> cases hq : q z.1 <;> simp [hr, hp, hq] at this ⊢ <;> omega
theorem btw_full (bag : List (Int × Nat)) (a b : Int) : btw (btwP false false a b) bag = bagW bag := by
  have : btwP false false a b = fun _ => true := by funext x; simp [btwP]
  unfold btw bagW
  rw [this, List.filter_eq_self.2 (fun _ _ => rfl)]
theorem btw_low (bag : List (Int × Nat)) (a q : Int) {L : List Lvl} (h : BagOf bag L) : btw (btwP false true a q) bag = usum q L := by
  rw [← h.usum q]
  have : btwP false true a q = fun x => decide (x ≤ q) := by funext x; simp [btwP]
  unfold btw
  rw [this]
theorem btw_mid {bag : List (Int × Nat)} {a b : Int} {L : List Lvl} (h : BagOf bag L) (hab : a ≤ b) : btw (btwP true true a b) bag = usum b L - usum a L := by
  have e := btw_split (p := btwP false true 0 a) (q := btwP true true a b) (r := btwP false true 0 b) (fun x => by
    unfold btwP
    by_cases h1 : x ≤ a
    · have h2 : x ≤ b := by omega
      have h3 : ¬ a < x := by omega
      simp [h1, h2, h3]
    · have h3 : a < x := by omega
      simp [h1, h3]) bag
  rw [btw_low bag 0 b h, btw_low bag 0 a h] at e
  omega
theorem btw_high {bag : List (Int × Nat)} {a b : Int} {L : List Lvl} (h : BagOf bag L) : btw (btwP true false a b) bag = wsum L - usum a L := by
  have e := btw_split (p := btwP false true 0 a) (q := btwP true false a b) (r := btwP false false 0 0) (fun x => by
    unfold btwP
    by_cases h1 : x ≤ a
    · have h3 : ¬ a < x := by omega
      simp [h1, h3]
    · have h3 : a < x := by omega
      simp [h1, h3]) bag
  rw [btw_low bag 0 a h, btw_full, show bagW bag = wsum L from h.wsum] at e
  omega

end Go.Proofs.YtklicjbpjigfdabGreat
