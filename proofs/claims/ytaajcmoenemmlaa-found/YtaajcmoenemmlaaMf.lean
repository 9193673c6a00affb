/- DERIVED. The walk of Quantile: the least number, the greatest, or the least item whose rank suffices. -/
import Derived.Test.YtaajcmoenemmlaaMd
import Derived.Test.YtaajcmoenemmlaaMe
import Derived.Test.YtaajcmoenemmlaaDeskW2
import Derived.Deep.RegionWith
import Derived.Deep.Cut
import Derived.Deep.DrawnRows
namespace Go.Proofs.Ytaajcmoenemmlaa
open Go.RowKit
variable {F : Nat → Prop}

/-- The best so far: it will do; of those that were looked at none below it will. -/
structure Best (L : List Lvl) (r : Nat) (hi b : Int) (done : Int → Prop) : Prop where
  le : b ≤ hi
  good : b = hi ∨ ((∃ j, j < L.length ∧ b ∈ (L.getD j Lvl.none).items) ∧ r ≤ usum b L)
  none : ∀ y, done y → y < b → usum y L < r
/-- The items of the levels below j. -/
def doneL (L : List Lvl) (j : Nat) (y : Int) : Prop := ∃ t, t < j ∧ y ∈ (L.getD t Lvl.none).items
def doneI (L : List Lvl) (j t : Nat) (y : Int) : Prop := doneL L j y ∨ y ∈ (L.getD j Lvl.none).items.take t

theorem getD_get {l : List Int} {t : Nat} (h : t < l.length) : l.getD t 0 = l[t] := by simp [List.getD, h]

theorem Best.keep {L : List Lvl} {r : Nat} {hi b : Int} {d d' : Int → Prop} (h : Best L r hi b d) (hd : ∀ y, d' y → d y ∨ ¬ y < b ∨ usum y L < r) : Best L r hi b d' := by
  refine ⟨h.le, h.good, fun y hy hb => ?_⟩
  rcases hd y hy with h1 | h1 | h1
  · exact h.none y h1 hb
  · exact absurd hb h1
  · exact h1
theorem doneI_succ {L : List Lvl} {j t : Nat} (ht : t < (L.getD j Lvl.none).items.length) {y : Int} (h : doneI L j (t + 1) y) : doneI L j t y ∨ y = (L.getD j Lvl.none).items.getD t 0 := by
  rcases h with h | h
  · exact .inl (.inl h)
  · rw [List.take_succ_eq_append_getElem ht] at h
    rcases List.mem_append.1 h with h | h
    · exact .inl (.inr h)
    · right
      have : y = (L.getD j Lvl.none).items[t] := by simpa using h
      rw [this]; exact (getD_get ht).symm
theorem Best.miss {L : List Lvl} {r j t : Nat} {hi b : Int} (h : Best L r hi b (doneI L j t)) (ht : t < (L.getD j Lvl.none).items.length) (hn : ¬ ((L.getD j Lvl.none).items.getD t 0 < b ∧ r ≤ usum ((L.getD j Lvl.none).items.getD t 0) L)) : Best L r hi b (doneI L j (t + 1)) := by
  refine h.keep (fun y hy => ?_)
  rcases doneI_succ ht hy with e | e
  · exact .inl e
  · right
    rw [e]
    by_cases hb : (L.getD j Lvl.none).items.getD t 0 < b
    · right
      exact Nat.lt_of_not_le (fun h9 => hn ⟨hb, h9⟩)
    · exact .inl hb
theorem Best.hit {L : List Lvl} {r j t : Nat} {hi b : Int} (h : Best L r hi b (doneI L j t)) (hj : j < L.length) (ht : t < (L.getD j Lvl.none).items.length) (h1 : (L.getD j Lvl.none).items.getD t 0 < b) (h2 : r ≤ usum ((L.getD j Lvl.none).items.getD t 0) L) : Best L r hi ((L.getD j Lvl.none).items.getD t 0) (doneI L j (t + 1)) := by
  refine ⟨by have := h.le; omega, .inr ⟨⟨j, hj, ?_⟩, h2⟩, fun y hy hb => ?_⟩
  · have : (L.getD j Lvl.none).items.getD t 0 = (L.getD j Lvl.none).items[t] := getD_get ht
    rw [this]; exact List.getElem_mem ht
  · rcases doneI_succ ht hy with e | e
    · exact h.none y e (by omega)
    · omega
theorem Best.next {L : List Lvl} {r j : Nat} {hi b : Int} (h : Best L r hi b (doneI L j (L.getD j Lvl.none).items.length)) : Best L r hi b (doneL L (j + 1)) := by
  refine h.keep (fun y hy => .inl ?_)
  obtain ⟨t, ht, hm⟩ := hy
  by_cases e : t = j
  · subst e; right; rw [List.take_length]; exact hm
  · exact .inl ⟨t, by omega, hm⟩

/-- What Quantile tells. -/
def QPost (L : List Lvl) (lo hi : Int) (r : Nat) (x : Int) : Prop := if r = 1 then x = lo else if r = wsum L then x = hi else Best L r hi x (doneL L L.length)

set_option maxHeartbeats 2000000 in
set_option maxRecDepth 100000 in
theorem skQuant_any (k g cap r : Nat) (lo hi : Int) (vs : List Value) (L : List Lvl) (w : World) (hL : LvAt F w g cap vs L) (hs : ∀ j, j < L.length → Srt (L.getD j Lvl.none).items) (hlen : L.length ≤ 30) (hbd : wsum L ≤ 1099511627776) (hr : r ≤ 1099511627776) :
    Calls Try.prog 57 #[skVal k g L.length cap lo hi, .int .i64 (r : Int)] w fun e w' => ∃ x, e = .returned (.int .i64 x) ∧ QPost L lo hi r x ∧ Below w.heap.size w w' := by
  have HU := hid (fun (x : Int) (w' : World) (hb : Below w.heap.size w w') => skUpTo_any k g cap lo hi x vs L w' (hL.below hb) hs hlen hbd)
  have HC := hid (fun (w' : World) (hb : Below w.heap.size w w') => count_any k g cap lo hi vs L w' (hL.below hb) hlen hbd)
  have HUB := hid (fun (x : Int) => usum_le x L)
  obtain ⟨n, hn⟩ : ∃ n, n = L.length := ⟨_, rfl⟩
  have HN := hid hn
  rw [← hn] at HU HC ⊢ hlen
  have HLV := hid hL
  clear hn hs hL
  go_enter Try.func57, Try.ntmps57
  by_cases h1 : r = 1
  · subst h1
    go_wp2_with fail
    go_ret
    exact ⟨lo, rfl, by unfold QPost; rw [if_pos rfl], (Below.refl _ _).alloc (Nat.le_refl _) _⟩
  · have h1' : ((r : Int) == 1) = false := by simp; omega
    have H1 := hid h1
    clear h1
    go_wp2_with fail
    have hbA : Below w.heap.size w (w.alloc (.cells #[.int .i64 (k : Int), .slice (some ⟨g, 0, none⟩) n cap, .int .i64 lo, .int .i64 hi] 97)) := (Below.refl w.heap.size w).alloc (Nat.le_refl _) _
    refine (HC.out _ hbA).mono ?_
    rintro e w1 ⟨rfl, hb1⟩
    have hk1 := below_new hb1 (by simp)
    have HB1 : Hid (Below w.heap.size w w1) := hbA.trans (hb1.mono hbA.size)
    have hsz1 : w.heap.size < w1.heap.size := lt_of_blk' hk1
    have HK1 := hid hk1
    obtain ⟨e0, e1, e2, e3, ez⟩ := blk4 hk1
    clear hb1 hbA hk1 HC
    by_cases h2 : r = wsum L
    · have h2' : ((r : Int) == (wsum L : Int)) = true := by simp [h2]
      have H2 := hid h2
      clear h2
      go_wp2_with fail
      go_ret
      exact ⟨hi, rfl, by unfold QPost; rw [if_neg H1.out, if_pos H2.out], HB1.out⟩
    · have h2' : ((r : Int) == (wsum L : Int)) = false := by simp; omega
      have H2 := hid h2
      clear h2
      go_wp2_with fail
      go_loopw [5, 24] (fun sb si wr => ∃ (j : Nat) (b : Int), j ≤ n ∧ si = .int .i64 j ∧ sb = .int .i64 b ∧ Hid (Best L r hi b (doneL L j)) ∧ Hid (Below w1.heap.size w1 wr)) (fun _ si _ => n - (intOf si).toNat)
      case atStart => exact ⟨0, hi, Nat.zero_le _, rfl, rfl, ⟨Int.le_refl _, .inl rfl, fun y hy => by obtain ⟨t, ht, _⟩ := hy; omega⟩, Below.refl _ _⟩
      case round =>
        obtain ⟨j, b, hj, rfl, rfl, Hbest, Hb⟩ := hrel
        obtain ⟨wo, hwo⟩ : ∃ wo, wo = wr := ⟨wr, rfl⟩
        subst hwo
        by_cases hlt : j < n
        · have hltL : j < L.length := by rw [← HN.out]; exact hlt
          have hbw : Below w.heap.size w wo := HB1.out.trans (Hb.out.mono HB1.out.size)
          have hLr := HLV.out.below hbw
          obtain ⟨ao, cc, ev, hcl, hcm, hno, hso⟩ := (hLr.its j hltL).form
          have c0 := hLr.cell0 hltL
          rw [ev] at c0
          have c1 := hLr.cell1 hltL
          have HNO := hid hno
          have HSO := hid hso
          have hil : (L.getD j Lvl.none).items.length ≤ 1099511627776 := by have := nsum_at hltL; have := nsum_le L; omega
          have hgz : g < wo.heap.size := hLr.lt
          have HBW := hid hbw
          generalize hits : (L.getD j Lvl.none).items = its at *
          have HIT := hid hits
          generalize hm : its.length = m at *
          have HM := hid hm
          generalize (L.getD j Lvl.none).times = tm at *
          have hs1 : (0 : Int) ≤ (j : Int) := by omega
          have hs2 : (j : Int) < (n : Int) := by omega
          have hwoz : w.heap.size < wo.heap.size := by have := Hb.out.size; omega
          clear hLr ev hno hso hbw hits hm
          go_wp2_with fail
          have hB5 : Below wo.heap.size wo (wo.alloc (.cells #[.slice ao m cc, .int .i64 (tm : Int)] 102)) := (Below.refl _ _).alloc (Nat.le_refl _) _
          go_loopw [5, 31] (fun sb si wr => ∃ (t : Nat) (b : Int), t ≤ m ∧ si = .int .i64 t ∧ sb = .int .i64 b ∧ Hid (Best L r hi b (doneI L j t)) ∧ Hid (Below wo.heap.size wo wr)) (fun _ si _ => m - (intOf si).toNat)
          case atStart => exact ⟨0, b, Nat.zero_le _, rfl, rfl, Hbest.out.keep (fun y hy => .inl (by rcases hy with h | h; exact h; simp at h)), hB5⟩
          case round =>
            clear Hbest
            obtain ⟨t, b2, ht, rfl, rfl, Hbest, Hb2⟩ := hrel
            by_cases htm : t < m
            · obtain ⟨gc, rfl⟩ : ∃ g, ao = some ⟨g, 0, none⟩ := by
                cases ao with
                | none => have h9 := (HNO.out rfl).1; have h8 := HM.out; rw [h9] at h8; simp at h8; omega
                | some a => obtain ⟨g, rfl, _⟩ := HSO.out a rfl; exact ⟨g, rfl⟩
              obtain ⟨gc', e9, hgc, hcc⟩ := HSO.out _ rfl
              cases e9
              have hcell : wr.cell? ⟨gc, t, none⟩ = some (.int .i64 (its.getD t 0)) := (Hb2.out.cell (by exact hgc)).trans (hcc t htm)
              have hbw2 : Below w.heap.size w wr := HBW.out.trans (Hb2.out.mono HBW.out.size)
              have hkb := (Hb2.out.block w.heap.size hwoz).trans ((Hb.out.block w.heap.size hsz1).trans HK1.out)
              obtain ⟨f0, f1, f2, f3, fz⟩ := blk4 hkb
              have HMS := hid (fun hn => Hbest.out.miss (by rw [HIT.out, HM.out]; exact htm) hn)
              have HHT := hid (fun h1 h2 => Hbest.out.hit hltL (by rw [HIT.out, HM.out]; exact htm) h1 h2)
              rw [HIT.out] at HMS HHT
              have hs3 : (0 : Int) ≤ (t : Int) := by omega
              have hs4 : (t : Int) < (m : Int) := by omega
              generalize its.getD t 0 = y at *
              have HUP := hid (HU.out y wr hbw2)
              have huy := HUB.out y
              clear hcc hkb hbw2 c0 c1
              by_cases hy : y < b2
              · have hy' : decide (y < b2) = true := decide_eq_true hy
                generalize usum y L = uy at *
                by_cases hg : r ≤ uy
                · have hg' : decide ((r : Int) ≤ (uy : Int)) = true := decide_eq_true (by omega)
                  go_wp2_with (first | (go_at_call 67; refine HUP.out.mono ?_; rintro e w5 ⟨rfl, hb5⟩; have HB5 := hid hb5; clear hb5))
                  go_roundw
                  case rel => exact ⟨t + 1, y, by omega, by go_num, rfl, HHT.out hy hg, Hb2.out.trans (HB5.out.mono Hb2.out.size)⟩
                  case measure => simp [intOf]; omega
                · have hg' : decide ((r : Int) ≤ (uy : Int)) = false := decide_eq_false (by omega)
                  have HG := hid hg
                  go_wp2_with (first | (go_at_call 67; refine HUP.out.mono ?_; rintro e w5 ⟨rfl, hb5⟩; have HB5 := hid hb5; clear hb5))
                  go_roundw
                  case rel => exact ⟨t + 1, b2, by omega, by go_num, rfl, HMS.out (fun h9 => HG.out h9.2), Hb2.out.trans (HB5.out.mono Hb2.out.size)⟩
                  case measure => simp [intOf]; omega
              · have hy' : decide (y < b2) = false := decide_eq_false hy
                have HY := hid hy
                go_wp2_with fail
                go_roundw
                case rel => exact ⟨t + 1, b2, by omega, by go_num, rfl, HMS.out (fun h9 => HY.out h9.1), Hb2⟩
                case measure => simp [intOf]; omega
            · obtain rfl : t = m := by omega
              have HX : Hid (Best L r hi b2 (doneL L (j + 1))) := by
                have h9 := Hbest.out
                rw [← HM.out, ← HIT.out] at h9
                exact h9.next
              go_wp2_with fail
              go_roundw
              case rel => exact ⟨j + 1, b2, by omega, by go_num, rfl, HX, Hb.out.trans (Hb2.out.mono Hb.out.size)⟩
              case measure => simp [intOf]; omega
        · obtain rfl : j = n := by omega
          go_wp2_with fail
          go_ret
          refine ⟨b, rfl, ?_, HB1.out.trans (Hb.out.mono HB1.out.size)⟩
          unfold QPost
          rw [if_neg H1.out, if_neg H2.out, ← HN.out]
          exact Hbest.out

end Go.Proofs.Ytaajcmoenemmlaa

/- DERIVED. Plain mathematics: what Quantile tells came in, and stands at its place up to the error. -/
namespace Go.Proofs.Ytaajcmoenemmlaa
open Go.RowKit

/-- All items. -/
def itemsAll : List Lvl → List Int
  | [] => []
  | l :: L => l.items ++ itemsAll L
theorem mem_itemsAll {y : Int} : ∀ {L : List Lvl}, y ∈ itemsAll L ↔ ∃ j, j < L.length ∧ y ∈ (L.getD j Lvl.none).items
  | [] => by simp [itemsAll]
  | l :: L => by
    rw [itemsAll, List.mem_append, mem_itemsAll (L := L)]
    constructor
    · rintro (h | ⟨j, hj, h⟩)
      · exact ⟨0, by simp, by simpa using h⟩
      · exact ⟨j + 1, by simpa using hj, by simpa using h⟩
    · rintro ⟨j, hj, h⟩
      cases j with
      | zero => exact .inl (by simpa using h)
      | succ j => exact .inr ⟨j, by simpa using hj, by simpa using h⟩
theorem cnt_congr {p q : Int} {l : List Int} (h : ∀ z ∈ l, z ≤ p ↔ z ≤ q) : cnt p l = cnt q l := by
  unfold cnt
  refine List.countP_congr (fun z hz => ?_)
  have := h z hz
  simpa using this
theorem usum_congr {p q : Int} : ∀ {L : List Lvl}, (∀ z ∈ itemsAll L, z ≤ p ↔ z ≤ q) → usum p L = usum q L
  | [], _ => rfl
  | l :: L, h => by
    rw [usum, usum, cnt_congr (fun z hz => h z (by rw [itemsAll]; exact List.mem_append.2 (.inl hz))), usum_congr (L := L) (fun z hz => h z (by rw [itemsAll]; exact List.mem_append.2 (.inr hz)))]
theorem usum_none {q : Int} : ∀ {L : List Lvl}, (∀ z ∈ itemsAll L, q < z) → usum q L = 0
  | [], _ => rfl
  | l :: L, h => by
    rw [usum, cnt_zero (fun z hz => h z (by rw [itemsAll]; exact List.mem_append.2 (.inl hz))), usum_none (L := L) (fun z hz => h z (by rw [itemsAll]; exact List.mem_append.2 (.inr hz)))]
/-- The greatest of those that are at most q. -/
theorem exists_top (q : Int) : ∀ l : List Int, (∀ z ∈ l, q < z) ∨ ∃ y ∈ l, y ≤ q ∧ ∀ z ∈ l, z ≤ q → z ≤ y
  | [] => .inl (fun z hz => by simp at hz)
  | x :: l => by
    by_cases hx : x ≤ q
    · right
      rcases exists_top q l with h | ⟨y, hy, hq, hm⟩
      · refine ⟨x, by simp, hx, fun z hz hzq => ?_⟩
        rcases List.mem_cons.1 hz with rfl | hz
        · exact Int.le_refl _
        · have := h z hz; omega
      · by_cases hxy : x ≤ y
        · refine ⟨y, by simp [hy], hq, fun z hz hzq => ?_⟩
          rcases List.mem_cons.1 hz with rfl | hz
          · exact hxy
          · exact hm z hz hzq
        · refine ⟨x, by simp, hx, fun z hz hzq => ?_⟩
          rcases List.mem_cons.1 hz with rfl | hz
          · exact Int.le_refl _
          · have := hm z hz hzq; omega
    · rcases exists_top q l with h | ⟨y, hy, hq, hm⟩
      · left
        intro z hz
        rcases List.mem_cons.1 hz with rfl | hz
        · omega
        · exact h z hz
      · right
        refine ⟨y, by simp [hy], hq, fun z hz hzq => ?_⟩
        rcases List.mem_cons.1 hz with rfl | hz
        · exact absurd hzq hx
        · exact hm z hz hzq
/-- If no item below x will do, x - 1 will not. -/
theorem usum_below {L : List Lvl} {r : Nat} {x : Int} (hr : 1 ≤ r) (h : ∀ y, doneL L L.length y → y < x → usum y L < r) : usum (x - 1) L < r := by
  rcases exists_top (x - 1) (itemsAll L) with h0 | ⟨y, hy, hq, hm⟩
  · rw [usum_none h0]; omega
  · have e : usum (x - 1) L = usum y L := usum_congr (fun z hz => ⟨fun hz1 => hm z hz hz1, fun hz1 => by omega⟩)
    rw [e]
    obtain ⟨j, hj, hm2⟩ := mem_itemsAll.1 hy
    exact h y ⟨j, hj, hm2⟩ (by omega)
theorem wFilter_congr {p q : Int → Bool} : ∀ {xs : List Int} {ws : List Nat}, (∀ x ∈ xs, p x = q x) → wFilter p xs ws = wFilter q xs ws
  | [], ws, _ => by cases ws <;> simp [wFilter]
  | x :: xs, [], _ => by simp [wFilter]
  | x :: xs, w :: ws, h => by rw [wFilter, wFilter, h x (by simp), wFilter_congr (xs := xs) (fun y hy => h y (by simp [hy]))]

/-- What Quantile tells holds. -/
theorem quant_holds {h : Hd} {s : Sd} {r : Nat} {x : Int} (hc : Came h s) (hn : ∀ q, Near q h.sk.lv (wFilter (fun x => decide (x ≤ q)) s.xs s.ws)) (hr1 : 1 ≤ r) (hr2 : r ≤ s.n) (hq : QPost h.sk.lv h.sk.lo h.sk.hi r x) :
    x ∈ s.xs ∧ r ≤ wFilter (fun y => decide (y ≤ x)) s.xs s.ws + esum h.sk.lv ∧ wFilter (fun y => decide (y < x)) s.xs s.ws + 1 ≤ r + esum h.sk.lv := by
  have hw := hc.inok.n
  have hs := hc.sum
  have elt : wFilter (fun y => decide (y < x)) s.xs s.ws = wFilter (fun y => decide (y ≤ x - 1)) s.xs s.ws := wFilter_congr (fun y _ => by
    by_cases h9 : y < x
    · rw [decide_eq_true h9, decide_eq_true (by omega)]
    · rw [decide_eq_false h9, decide_eq_false (by omega)])
  rcases hc.ends with e | ⟨m1, m2, m3⟩
  · omega
  · unfold QPost at hq
    by_cases h1 : r = 1
    · rw [if_pos h1] at hq
      subst hq
      have p1 := wFilter_pos (p := fun y => decide (y ≤ h.sk.lo)) hc.len hc.pos m1 (by simp)
      have p2 : wFilter (fun y => decide (y < h.sk.lo)) s.xs s.ws = 0 := wFilter_none _ _ _ (fun y hy => by have := m3 y hy; simp; omega)
      exact ⟨m1, by omega, by omega⟩
    · rw [if_neg h1] at hq
      have phi : wFilter (fun y => decide (y ≤ h.sk.hi)) s.xs s.ws = wAll s.ws := wFilter_all _ _ _ hc.len (fun y hy => by have := m3 y hy; simp; omega)
      by_cases h2 : r = wsum h.sk.lv
      · rw [if_pos h2] at hq
        subst hq
        have p2 := wFilter_miss (p := fun y => decide (y < h.sk.hi)) hc.len hc.pos m2 (by simp)
        exact ⟨m2, by omega, by omega⟩
      · rw [if_neg h2] at hq
        have hb := usum_below hr1 hq.none
        have n1 := (hn (x - 1)).2
        rw [← elt] at n1
        rcases hq.good with rfl | ⟨⟨j, hj, hm⟩, hg⟩
        · exact ⟨m2, by omega, by omega⟩
        · have n2 := (hn x).1
          exact ⟨(hc.lvok.at j).2 x hm, by omega, by omega⟩

end Go.Proofs.Ytaajcmoenemmlaa

/- DERIVED. The walk of the desk's Quantile. -/
namespace Go.Proofs.Ytaajcmoenemmlaa
open Go.RowKit
variable {F : Nat → Prop}

/-- What the desk's Quantile answers. -/
def DQPost (L : List Lvl) (lo hi r : Int) (e : Ending) : Prop :=
  if wsum L = 0 then e = .returned (.tuple #[.int .i64 0, .int .i64 8]) else if r < 1 ∨ (wsum L : Int) < r then e = .returned (.tuple #[.int .i64 0, .int .i64 1]) else ∃ x, e = .returned (.tuple #[.int .i64 x, .int .i64 0]) ∧ QPost L lo hi r.toNat x

set_option maxHeartbeats 1000000 in
set_option maxRecDepth 100000 in
theorem deskQuant (d : Nat) (D : Dk) (i : Nat) (r : Int) (w : World) (h : DeskAt F w d D) (hi : i < D.sks.length) (hok : (D.sks.getD i Hd.none).Ok) (hs : ∀ j, j < (D.sks.getD i Hd.none).sk.lv.length → Srt ((D.sks.getD i Hd.none).sk.lv.getD j Lvl.none).items) :
    Calls Try.prog 41 #[.pointer (some ⟨d, 0, none⟩), .int .i64 (i : Int), .int .i64 r] w fun e w' => DQPost (D.sks.getD i Hd.none).sk.lv (D.sks.getD i Hd.none).sk.lo (D.sks.getD i Hd.none).sk.hi r e ∧ Below w.heap.size w w' := by
  obtain ⟨vt, vk, rs, h⟩ := h
  have hdz := lt_of_blk' h.blk
  obtain ⟨g, c, rfl, hg, q0, q1, q2, q3, q4⟩ := h.cells5 hi
  obtain ⟨_, _, c2, _⟩ := blk3 h.blk
  have HH := hid (has_any d (i : Int) _ _ _ _ c2)
  rw [hasB_nat hi] at HH
  have hlv := h.lv i hi
  have HC := hid (fun (w' : World) (hb : Below w.heap.size w w') => count_any (D.sks.getD i Hd.none).sk.k _ _ (D.sks.getD i Hd.none).sk.lo (D.sks.getD i Hd.none).sk.hi _ _ w' (hlv.below hb) (by have := hok.len; omega) (by have := hok.cnt; omega))
  have HR := hid (fun (n : Nat) (hn : n ≤ 1099511627776) (w' : World) (hb : Below w.heap.size w w') => skQuant_any (D.sks.getD i Hd.none).sk.k _ _ n (D.sks.getD i Hd.none).sk.lo (D.sks.getD i Hd.none).sk.hi _ _ w' (hlv.below hb) hs (by have := hok.len; omega) (by have := hok.cnt; omega) hn)
  have hcnt := hok.cnt
  generalize (D.sks.getD i Hd.none).sk = sk at *
  generalize rs.getD i Ref.none = rr at *
  generalize (D.sks.getD i Hd.none).sealed = sl at *
  generalize D.sks.length = n at *
  generalize hwe : wsum sk.lv = ws at *
  have HWE := hid hwe
  clear h hok hlv hs hwe
  go_enter Try.func41, Try.ntmps41
  go_wp2_with (first | (go_at_call 51; refine HH.out.mono ?_; rintro e w' ⟨rfl, hw⟩; obtain rfl := hw.symm))
  have hbB : Below w.heap.size w (w.alloc (skBlk sk.k rr.g sk.lv.length rr.cap sk.lo sk.hi)) := (Below.refl w.heap.size w).alloc (Nat.le_refl _) _
  refine (HC.out _ hbB).mono ?_
  rintro e w1 ⟨rfl, hb1⟩
  have hk1 := below_new hb1 (by simp)
  have HB1 : Hid (Below w.heap.size w w1) := hbB.trans (hb1.mono hbB.size)
  obtain ⟨e0, e1, e2, e3, ez⟩ := blk4 hk1
  clear hb1 hbB hk1 HC
  by_cases h0 : ws = 0
  · subst h0
    go_wp2_with fail
    go_ret2
    refine ⟨?_, HB1.out⟩
    unfold DQPost
    rw [HWE.out, if_pos rfl]
    simp
  · have h0' : ((ws : Int) == 0) = false := by simpa using h0
    have HNE := hid h0
    clear h0
    by_cases h1 : r < 1
    · have h1' : decide (r < 1) = true := decide_eq_true h1
      have H1 := hid h1
      go_wp2_with fail
      go_ret2
      refine ⟨?_, HB1.out⟩
      unfold DQPost
      rw [HWE.out, if_neg HNE.out, if_pos (.inl H1.out)]
      simp
    · have h1' : decide (r < 1) = false := decide_eq_false h1
      by_cases h2 : (ws : Int) < r
      · have h2' : decide ((ws : Int) < r) = true := decide_eq_true h2
        have H2 := hid h2
        go_wp2_with fail
        go_ret2
        refine ⟨?_, HB1.out⟩
        unfold DQPost
        rw [HWE.out, if_neg HNE.out, if_pos (.inr H2.out)]
        simp
      · have h2' : decide ((ws : Int) < r) = false := decide_eq_false h2
        have H12 : Hid (¬ (r < 1 ∨ (ws : Int) < r)) := fun h => h.elim h1 h2
        obtain ⟨rn, rfl⟩ : ∃ rn : Nat, r = (rn : Int) := ⟨r.toNat, by omega⟩
        have HQ := hid (HR.out rn (by omega))
        clear HR
        go_wp2_with fail
        refine (HQ.out _ HB1.out).mono ?_
        rintro e w2 ⟨x, rfl, hx, hb2⟩
        have HX := hid hx
        have HB2 : Hid (Below w.heap.size w w2) := HB1.out.trans (hb2.mono HB1.out.size)
        clear hx hb2
        go_wp2_with fail
        go_ret2
        refine ⟨?_, HB2.out⟩
        unfold DQPost
        rw [HWE.out, if_neg HNE.out, if_neg H12.out]
        exact ⟨x, by simp, by simpa using HX.out⟩

end Go.Proofs.Ytaajcmoenemmlaa

/- DERIVED. The walk of the statement's own found. -/
namespace Go.Proofs.Ytaajcmoenemmlaa
open Go.RowKit
attribute [local go_sem ↓] Go.wp_at_zero Go.wp_at_succ
variable {K : Nat → Prop} {w0 : World}

theorem bdrew {B : Nat} {w w' : World} (h : Below B w w') : Below B w w'.drew := ⟨h.os, h.tape, h.output, h.size, h.block⟩

set_option maxHeartbeats 800000 in
set_option maxRecDepth 100000 in
theorem found_zero (p d i : Nat) (q : Int) (ps : Nat → Nat) (W : Wd) (w : World) (h : WdSt K w0 w p d 3 ps W) (hi : i < 3) (hm : MInv W) (hz : (W.sd i).n = 0) :
    Calls Try.prog 18 #[.pointer (some ⟨p, 0, none⟩), .int .i64 (i : Int), .int .i64 q] w fun e w' => e = .returned (.bool true) ∧ Below w.heap.size w w' := by
  have hc := hm.came i hi
  have hro := hm.roomy i hi
  have HOF := hid (fun (w' : World) (hb : Below w.heap.size w w') => off_any p d i ps W w' (h.below hb) hi hm.len hc hro)
  obtain ⟨own, vs, vx, vw, h, _⟩ := h
  obtain ⟨gs, cs0, evs, hptr⟩ := h.ptr hi
  obtain ⟨c0, c1, c2, c3, c4, c5, c6, cz⟩ := blk7 h.blk
  rw [evs] at c1
  have hil : i < W.D.sks.length := by rw [hm.len]; exact hi
  have hss := ssum_small hc hro
  have HQU := hid (fun (r : Int) (w' : World) (hb : Below w.heap.size w w') => deskQuant d W.D i r w' (h.desk.below hb) hil hc.inok.ok (fun j _ => (hc.lvok.at j).1))
  have HUP := hid (fun (x : Int) (w' : World) (hb : Below w.heap.size w w') => upTo_any (ps i) (W.sd i) (vx i) (vw i) x w' ((h.side i hi).below hb) (by have := hc.inok.xl; omega) (by rw [hc.sum, hc.inok.n]; have := hc.inok.ok.cnt; omega))
  have HBE := hid (fun (x : Int) (w' : World) (hb : Below w.heap.size w w') => below_any (ps i) (W.sd i) (vx i) (vw i) x w' ((h.side i hi).below hb) (by have := hc.inok.xl; omega) (by rw [hc.sum, hc.inok.n]; have := hc.inok.ok.cnt; omega))
  have HIN := hid (fun (x : Int) (w' : World) (hb : Below w.heap.size w w') => in_any (ps i) (W.sd i) (vx i) (vw i) x w' ((h.side i hi).below hb) (by have := hc.inok.xl; omega))
  have hel := esum_le (W.D.sks.getD i Hd.none).sk.lv
  have hcnt := hc.inok.ok.cnt
  have hnw := hc.inok.n
  have HQH := hid (fun r x (h1 : 1 ≤ r) (h2 : r ≤ (W.sd i).n) hq => quant_holds (r := r) (x := x) hc (hm.near i hi) h1 h2 hq)
  have HLE := hid (fun (pr : Int → Bool) => by have := wFilter_le pr (W.sd i).xs (W.sd i).ws; rw [hc.sum] at this; exact this)
  have HPB := hid h.blk
  have hpz := lt_of_blk' h.blk
  have HSD := hid (h.side i hi).blk
  have hsz := lt_of_blk' (h.side i hi).blk
  have hs1 : (0 : Int) ≤ (i : Int) := by omega
  have hs2 : (i : Int) < 3 := by omega
  generalize W.D.sks.getD i Hd.none = de at *
  unfold DQPost at HQU
  generalize esum de.sk.lv = es at *
  generalize ssum de.sk.lv = ss at *
  generalize hwse : wsum de.sk.lv = ws at *
  generalize ps i = pi at *
  generalize hsde : W.sd i = sd at *
  have hs2' := HSD.out
  have s2' : w.cell? ⟨pi, 2, none⟩ = some (.int .i64 (sd.n : Int)) := (blk6 hs2').2.2.1
  generalize hn9 : sd.n = sn at *
  have hn1 : sn ≤ 268435456 := by omega
  have h0 : sn = 0 := hz
  clear hz
  clear hc hro h evs hsde hwse hs2'
  have hw0 : ws = 0 := by omega
  have HQ0 := hid (fun r w' hb => by have h9 := HQU.out r w' hb; rw [hw0] at h9; simp only [if_true] at h9; exact h9)
  subst h0
  clear HQU HQH HUP HBE HIN HOF HLE hnw hw0
  go_enter Try.func18, Try.ntmps18
  go_wp2_with fail
  refine (HQ0.out _ _ (Below.refl _ _)).mono ?_
  rintro e w1 ⟨rfl, hb1⟩
  have hp1 := (hb1.block _ hpz).trans HPB.out
  have hq1 := (hb1.block _ hsz).trans HSD.out
  have s2'' : w1.cell? ⟨pi, 2, none⟩ = some (.int .i64 (0 : Int)) := (blk6 hq1).2.2.1
  clear c0 c1 c2 c3 c4 c5 c6 cz s2'
  obtain ⟨c0, c1, c2, c3, c4, c5, c6, cz⟩ := blk7 hp1
  have HB1 := hid hb1
  clear hb1 hp1 hq1
  go_wp2_with fail
  go_region_with (first | (go_at_call 41; refine (HQ0.out _ _ (bdrew HB1.out)).mono ?_; rintro e w2 ⟨rfl, hb2⟩; have hb3 := HB1.out.trans ((undrew hb2).mono HB1.out.size); have hq2 := (hb3.block _ hsz).trans HSD.out; have s3 : w2.cell? ⟨pi, 2, none⟩ = some (.int .i64 (0 : Int)) := (blk6 hq2).2.2.1; have HB3 := hid hb3; clear hb2 hb3 hq2))
  all_goals
    go_wp2_with fail
    go_ret
    exact ⟨by simp, HB3.out⟩

set_option maxHeartbeats 800000 in
set_option maxRecDepth 100000 in
theorem found_some (p d i : Nat) (q : Int) (ps : Nat → Nat) (W : Wd) (w : World) (h : WdSt K w0 w p d 3 ps W) (hi : i < 3) (hm : MInv W) (hq : InRange q) (hz : (W.sd i).n ≠ 0) :
    Calls Try.prog 18 #[.pointer (some ⟨p, 0, none⟩), .int .i64 (i : Int), .int .i64 q] w fun e w' => e = .returned (.bool true) ∧ Below w.heap.size w w' := by
  have hc := hm.came i hi
  have hro := hm.roomy i hi
  have HOF := hid (fun (w' : World) (hb : Below w.heap.size w w') => off_any p d i ps W w' (h.below hb) hi hm.len hc hro)
  obtain ⟨own, vs, vx, vw, h, _⟩ := h
  obtain ⟨gs, cs0, evs, hptr⟩ := h.ptr hi
  obtain ⟨c0, c1, c2, c3, c4, c5, c6, cz⟩ := blk7 h.blk
  rw [evs] at c1
  have hil : i < W.D.sks.length := by rw [hm.len]; exact hi
  have hss := ssum_small hc hro
  have HQU := hid (fun (r : Int) (w' : World) (hb : Below w.heap.size w w') => deskQuant d W.D i r w' (h.desk.below hb) hil hc.inok.ok (fun j _ => (hc.lvok.at j).1))
  have HUP := hid (fun (x : Int) (w' : World) (hb : Below w.heap.size w w') => upTo_any (ps i) (W.sd i) (vx i) (vw i) x w' ((h.side i hi).below hb) (by have := hc.inok.xl; omega) (by rw [hc.sum, hc.inok.n]; have := hc.inok.ok.cnt; omega))
  have HBE := hid (fun (x : Int) (w' : World) (hb : Below w.heap.size w w') => below_any (ps i) (W.sd i) (vx i) (vw i) x w' ((h.side i hi).below hb) (by have := hc.inok.xl; omega) (by rw [hc.sum, hc.inok.n]; have := hc.inok.ok.cnt; omega))
  have HIN := hid (fun (x : Int) (w' : World) (hb : Below w.heap.size w w') => in_any (ps i) (W.sd i) (vx i) (vw i) x w' ((h.side i hi).below hb) (by have := hc.inok.xl; omega))
  have hel := esum_le (W.D.sks.getD i Hd.none).sk.lv
  have hcnt := hc.inok.ok.cnt
  have hnw := hc.inok.n
  have HQH := hid (fun r x (h1 : 1 ≤ r) (h2 : r ≤ (W.sd i).n) hq => quant_holds (r := r) (x := x) hc (hm.near i hi) h1 h2 hq)
  have HLE := hid (fun (pr : Int → Bool) => by have := wFilter_le pr (W.sd i).xs (W.sd i).ws; rw [hc.sum] at this; exact this)
  have HPB := hid h.blk
  have hpz := lt_of_blk' h.blk
  have HSD := hid (h.side i hi).blk
  have hsz := lt_of_blk' (h.side i hi).blk
  have hs1 : (0 : Int) ≤ (i : Int) := by omega
  have hs2 : (i : Int) < 3 := by omega
  generalize W.D.sks.getD i Hd.none = de at *
  unfold DQPost at HQU
  generalize esum de.sk.lv = es at *
  generalize ssum de.sk.lv = ss at *
  generalize hwse : wsum de.sk.lv = ws at *
  generalize ps i = pi at *
  generalize hsde : W.sd i = sd at *
  have hs2' := HSD.out
  have s2' : w.cell? ⟨pi, 2, none⟩ = some (.int .i64 (sd.n : Int)) := (blk6 hs2').2.2.1
  generalize hn9 : sd.n = sn at *
  have hn1 : sn ≤ 268435456 := by omega
  have h0 : ¬ sn = 0 := hz
  clear hz
  subst hnw
  clear hc hro h evs hsde hwse hs2'
  have hw0 : ¬ sn = 0 := by omega
  have HQ0 := hid (fun r w' hb => by have h9 := HQU.out r w' hb; simp only [if_neg hw0] at h9; exact h9)
  have h0' : ((sn : Int) == 0) = false := by simp; omega
  have HPK := hid (fun (w' : World) => pick_any q sn w' hq.1 hq.2 (by omega) (by omega))
  have hpl := pickN_lt q (n := sn) (by omega)
  generalize pickN q sn = pk at *
  have HA0 := hid (fun w' hb => by have h9 := HQ0.out 0 w' hb; simp only [show ((0 : Int) < 1 ∨ (sn : Int) < 0) = True from by simp, if_true] at h9; exact h9)
  have HA1 := hid (fun w' hb => by have h9 := HQ0.out ((sn : Int) + 1) w' hb; simp only [if_pos (show ((sn : Int) + 1 < 1 ∨ (sn : Int) < (sn : Int) + 1) from .inr (by omega))] at h9; exact h9)
  have HA2 := hid (fun w' hb => by have h9 := HQ0.out ((1 : Int) + (pk : Int)) w' hb; simp only [if_neg (show ¬ ((1 : Int) + (pk : Int) < 1 ∨ (sn : Int) < (1 : Int) + (pk : Int)) from fun h => by omega)] at h9; exact h9)
  clear HQU HQ0
  go_enter Try.func18, Try.ntmps18
  go_wp2_with fail
  refine (HA0.out _ (Below.refl _ _)).mono ?_
  rintro e w1 ⟨rfl, hb1⟩
  have hp1 := (hb1.block _ hpz).trans HPB.out
  have hq1 := (hb1.block _ hsz).trans HSD.out
  have s2'' : w1.cell? ⟨pi, 2, none⟩ = some (.int .i64 (sn : Int)) := (blk6 hq1).2.2.1
  clear c0 c1 c2 c3 c4 c5 c6 cz s2'
  obtain ⟨c0, c1, c2, c3, c4, c5, c6, cz⟩ := blk7 hp1
  have HB1 := hid hb1
  have hwr : IntKind.i64.wrap ((sn : Int) + 1) = (sn : Int) + 1 := by simp [IntKind.wrap, IntKind.bits, IntKind.signed]; omega
  clear hb1 hp1 hq1 HA0
  go_upto_region 3 with fail
  go_cut [10, 11] from 38 (fun s10 s11 wc => s10 = .int .i64 0 ∧ s11 = .int .i64 1 ∧ Below w.heap.size w wc)
  case first =>
    go_region_with (first | (go_at_call 41; refine (HA1.out _ (bdrew HB1.out)).mono ?_; rintro e w2 ⟨rfl, hb2⟩; have hb3 := HB1.out.trans ((undrew hb2).mono HB1.out.size); have HB3 := hid hb3; clear hb2 hb3))
    all_goals
      go_wp2_with fail
      go_meet
      exact ⟨rfl, rfl, HB3.out⟩
  case rest =>
  obtain ⟨rfl, rfl, hb3⟩ := hcut
  have hp3 := (hb3.block _ hpz).trans HPB.out
  have hq3 := (hb3.block _ hsz).trans HSD.out
  have s3 : wc.cell? ⟨pi, 2, none⟩ = some (.int .i64 (sn : Int)) := (blk6 hq3).2.2.1
  clear c0 c1 c2 c3 c4 c5 c6 cz s2''
  obtain ⟨c0, c1, c2, c3, c4, c5, c6, cz⟩ := blk7 hp3
  have HB3 := hid hb3
  clear hb3 hp3 hq3 HA1 HB1
  go_wp2_with (first | (go_at_call 26; refine (HPK.out _).mono ?_; rintro e w' ⟨rfl, hw⟩; obtain rfl := hw.symm))
  refine (HA2.out _ HB3.out).mono ?_
  rintro e w4 ⟨⟨x, rfl, hx⟩, hb4⟩
  have HX := hid (HQH.out (1 + pk) x (by omega) (by omega) (by have e9 : ((1 : Int) + (pk : Int)).toNat = 1 + pk := by omega
                                                               rw [e9] at hx; exact hx))
  have hb5 := HB3.out.trans (hb4.mono HB3.out.size)
  have HB5 := hid hb5
  clear hx hb4 hb5 HA2 HQH c0 c1 c2 c3 c4 c5 c6 cz s3 hwr
  go_wp2_with fail
  refine (HOF.out _ HB5.out).mono ?_
  rintro e w5 ⟨rfl, hb6⟩
  have hb7 := HB5.out.trans (hb6.mono HB5.out.size)
  have HB7 := hid hb7
  clear hb6 hb7 HOF
  obtain ⟨x1, x2, x3⟩ := HX.out
  have l1 := HLE.out (fun y => decide (y ≤ x))
  have l2 := HLE.out (fun y => decide (y < x))
  have HU1 := hid (HUP.out x _ HB7.out)
  have HB1' := hid (HBE.out x _ HB7.out)
  have HI1 := hid (HIN.out x _ HB7.out)
  rw [decide_eq_true x1] at HI1
  generalize wFilter (fun y => decide (y ≤ x)) sd.xs sd.ws = u1 at *
  generalize wFilter (fun y => decide (y < x)) sd.xs sd.ws = u2 at *
  have f1 : decide ((1 : Int) + (pk : Int) - (es : Int) ≤ (u1 : Int)) = true := decide_eq_true (by omega)
  have f2 : decide ((u2 : Int) ≤ (1 : Int) + (pk : Int) - 1 + (es : Int)) = true := decide_eq_true (by omega)
  clear HX x1 HLE HUP HBE HIN
  go_wp2_with (first | (go_at_call 42; refine HI1.out.mono ?_; rintro e w' ⟨rfl, hw⟩; obtain rfl := hw.symm) | (go_at_call 40; refine HU1.out.mono ?_; rintro e w' ⟨rfl, hw⟩; obtain rfl := hw.symm) | (go_at_call 43; refine HB1'.out.mono ?_; rintro e w' ⟨rfl, hw⟩; obtain rfl := hw.symm))
  go_ret
  exact ⟨by simp, HB7.out⟩

theorem found_any (p d i : Nat) (q : Int) (ps : Nat → Nat) (W : Wd) (w : World) (h : WdSt K w0 w p d 3 ps W) (hi : i < 3) (hm : MInv W) (hq : InRange q) :
    Calls Try.prog 18 #[.pointer (some ⟨p, 0, none⟩), .int .i64 (i : Int), .int .i64 q] w fun e w' => e = .returned (.bool true) ∧ Below w.heap.size w w' := by
  by_cases hz : (W.sd i).n = 0
  · exact found_zero p d i q ps W w h hi hm hz
  · exact found_some p d i q ps W w h hi hm hq hz

end Go.Proofs.Ytaajcmoenemmlaa

/- DERIVED. The walk of the statement Found: it returns true, and nothing that was there has turned. -/
namespace Go.Proofs.Ytaajcmoenemmlaa
open Go.RowKit

set_option maxHeartbeats 2000000 in
set_option maxRecDepth 100000 in
theorem found_walk (k : Int) (coins : ByteArray) (ao : Option Addr) (n cap : Nat) (q : Int) (ss : List St) (w : World) (hk1 : -9223372036854775808 ≤ k) (hk2 : k ≤ 9223372036854775807) (hq : InRange q) (hcs : coins.size ≤ 140737488355328) (hl : ss.length = n) (hr : n * 32 ≤ 140737488351232) (hrg : ∀ s ∈ ss, InRange s.a ∧ InRange s.b ∧ InRange s.c)
    (hc : ∀ i, i < n → ∃ b off, ao = some ⟨b, off, none⟩ ∧ b < w.heap.size ∧ w.cell? ⟨b, off + i * 4, none⟩ = some (.int .i64 (ss.getD i St.zero).kd) ∧ w.cell? ⟨b, off + i * 4 + 1, none⟩ = some (.int .i64 (ss.getD i St.zero).a) ∧ w.cell? ⟨b, off + i * 4 + 2, none⟩ = some (.int .i64 (ss.getD i St.zero).b) ∧ w.cell? ⟨b, off + i * 4 + 3, none⟩ = some (.int .i64 (ss.getD i St.zero).c)) :
    Calls Try.prog 6 #[.int .i64 k, .string coins, .slice ao n cap, .int .i64 q] w fun e w' => e = .returned (.bool true) ∧ Below w.heap.size w w' := by
  have HB := hid (begin_w k coins w hk1 hk2)
  have HC := hid hc
  have HINV := hid (first_minv k coins hcs)
  have HRG := hid hrg
  have HL := hid hl
  have HQ := hid hq
  clear hc hrg hl hq
  go_enter Try.func6, Try.ntmps6
  go_wp2_with fail
  refine HB.out.mono ?_
  rintro e w1 ⟨p, d, ps, rfl, hst1⟩
  have HST1 := hid hst1
  clear hst1 HB
  go_wp2_with fail
  go_loopw [10] (fun si wr => ∃ (i : Nat) (W : Wd), i ≤ n + 1 ∧ si = .int .i64 i ∧ Hid (MInv W) ∧ Hid (WdSt (fun b => b < w.heap.size) w wr p d 3 ps W)) (fun si _ => n + 1 - (intOf si).toNat)
  case atStart => exact ⟨0, _, Nat.zero_le _, rfl, HINV, HST1⟩
  case round =>
    obtain ⟨i, W, hi, rfl, Hinv, Hst⟩ := hrel
    clear HST1 HINV
    obtain ⟨wo, hwo⟩ : ∃ wo, wo = wr := ⟨wr, rfl⟩
    subst hwo
    by_cases hle : i ≤ n
    · go_wp2_with fail
      go_loopw [11] (fun sj wr2 => ∃ j : Nat, j ≤ 3 ∧ sj = .int .i64 j ∧ Hid (Below wo.heap.size wo wr2)) (fun sj _ => 3 - (intOf sj).toNat)
      case atStart => exact ⟨0, Nat.zero_le _, rfl, Below.refl _ _⟩
      case round =>
        obtain ⟨j, hj, rfl, Hb2⟩ := hrel
        have hst := Hst.out.below Hb2.out
        by_cases hj3 : j < 3
        · have HKE := hid (found_any p d j q ps W _ hst hj3 Hinv.out HQ.out)
          clear hst
          go_wp2_with fail
          refine HKE.out.mono ?_
          rintro e w5 ⟨rfl, hb5⟩
          have HB5 : Hid (Below wo.heap.size wo w5) := Hb2.out.trans (hb5.mono Hb2.out.size)
          clear hb5
          go_wp2_with fail
          go_roundw
          case rel => exact ⟨j + 1, by omega, by go_num, HB5⟩
          case measure => simp [intOf]; omega
        · have HST := hid hst
          have hke := hst.keeps
          clear hst
          by_cases hil : i < n
          · have hil' : i < ss.length := by rw [HL.out]; exact hil
            obtain ⟨bs, off, rfl, hbz, q0, q1, q2, q3⟩ := HC.out i hil
            have hbk : ∀ o, wr.cell? ⟨bs, o, none⟩ = w.cell? ⟨bs, o, none⟩ := fun o => World.cell?_of_block (hke.block bs hbz)
            rw [← hbk] at q0 q1 q2 q3
            have hmem : ss.getD i St.zero ∈ ss := by simp [List.getD, hil']
            have hg := HRG.out _ hmem
            generalize ss.getD i St.zero = st at *
            have HSP := hid (step_any' p d st.kd st.a st.b st.c ps W wr HST.out Hinv.out hg.1 hg.2.1 hg.2.2)
            clear hmem hg hbk hke
            go_wp2_with fail
            refine HSP.out.mono ?_
            rintro e w6 ⟨rfl, W', hst', hinv'⟩
            have HS' := hid hst'
            have HI' := hid hinv'
            clear hst' hinv'
            go_wp2_with fail
            go_roundw
            case rel => exact ⟨i + 1, W', by omega, by go_num, HI', HS'⟩
            case measure => simp [intOf]; omega
          · go_wp2_with fail
            go_roundw
            case rel => exact ⟨i + 1, W, by omega, by go_num, Hinv, HST⟩
            case measure => simp [intOf]; omega
    · go_wp2_with fail
      go_ret
      have hk := Hst.out.keeps
      exact ⟨rfl, ⟨hk.os, hk.tape, hk.output, hk.size, fun b hb => hk.block b hb⟩⟩

end Go.Proofs.Ytaajcmoenemmlaa
