/- DERIVED. The walk of Quantile: the least number, the greatest, or the least item whose rank suffices. -/
import Derived.Test.YtklicjbpjigfdaaMd
namespace Go.Proofs.Ytklicjbpjigfdaa
open Go.RowKit
variable {F : Nat → Prop}

/-- The best so far: it will do; of those that were looked at none below it will. -/
structure Best (L : List Lvl) (r : Nat) (hi b : Int) (done : Int → Prop) : Prop where
  le : b ≤ hi
  good : b = hi ∨ ((∃ j, j < L.length ∧ b ∈ (L.getD j Lvl.none).items) ∧ r ≤ usum b L)
  none : ∀ y, done y → y < b → usum y L < r
/-- The items of the levels below j. -/
def doneL (L : List Lvl) (j : Nat) (y : Int) : Prop := ∃ t, t < j ∧ y ∈ (L.getD t Lvl.none).items
def doneI (L : List Lvl) (j t : Nat) (y : Int) : Prop := doneL L j y ∨ y ∈ (L.getD j Lvl.none).items.take t

theorem getD_get {l : List Int} {t : Nat} (h : t < l.length) : l.getD t 0 = l[t] := by simp [List.getD, h]

theorem Best.keep {L : List Lvl} {r : Nat} {hi b : Int} {d d' : Int → Prop} (h : Best L r hi b d) (hd : ∀ y, d' y → d y ∨ ¬ y < b ∨ usum y L < r) : Best L r hi b d' := by
  refine ⟨h.le, h.good, fun y hy hb => ?_⟩
  rcases hd y hy with h1 | h1 | h1
  · exact h.none y h1 hb
  · exact absurd hb h1
  · exact h1
theorem doneI_succ {L : List Lvl} {j t : Nat} (ht : t < (L.getD j Lvl.none).items.length) {y : Int} (h : doneI L j (t + 1) y) : doneI L j t y ∨ y = (L.getD j Lvl.none).items.getD t 0 := by
  rcases h with h | h
  · exact .inl (.inl h)
  · rw [List.take_succ_eq_append_getElem ht] at h
    rcases List.mem_append.1 h with h | h
    · exact .inl (.inr h)
    · right
      have : y = (L.getD j Lvl.none).items[t] := by simpa using h
      rw [this]; exact (getD_get ht).symm
theorem Best.miss {L : List Lvl} {r j t : Nat} {hi b : Int} (h : Best L r hi b (doneI L j t)) (ht : t < (L.getD j Lvl.none).items.length) (hn : ¬ ((L.getD j Lvl.none).items.getD t 0 < b ∧ r ≤ usum ((L.getD j Lvl.none).items.getD t 0) L)) : Best L r hi b (doneI L j (t + 1)) := by
  refine h.keep (fun y hy => ?_)
  rcases doneI_succ ht hy with e | e
  · exact .inl e
  · right
    rw [e]
    by_cases hb : (L.getD j Lvl.none).items.getD t 0 < b
    · right
      exact Nat.lt_of_not_le (fun h9 => hn ⟨hb, h9⟩)
    · exact .inl hb
theorem Best.hit {L : List Lvl} {r j t : Nat} {hi b : Int} (h : Best L r hi b (doneI L j t)) (hj : j < L.length) (ht : t < (L.getD j Lvl.none).items.length) (h1 : (L.getD j Lvl.none).items.getD t 0 < b) (h2 : r ≤ usum ((L.getD j Lvl.none).items.getD t 0) L) : Best L r hi ((L.getD j Lvl.none).items.getD t 0) (doneI L j (t + 1)) := by
  refine ⟨by have := h.le; omega, .inr ⟨⟨j, hj, ?_⟩, h2⟩, fun y hy hb => ?_⟩
  · have : (L.getD j Lvl.none).items.getD t 0 = (L.getD j Lvl.none).items[t] := getD_get ht
    rw [this]; exact List.getElem_mem ht
  · rcases doneI_succ ht hy with e | e
    · exact h.none y e (by omega)
    · omega
theorem Best.next {L : List Lvl} {r j : Nat} {hi b : Int} (h : Best L r hi b (doneI L j (L.getD j Lvl.none).items.length)) : Best L r hi b (doneL L (j + 1)) := by
  refine h.keep (fun y hy => .inl ?_)
  obtain ⟨t, ht, hm⟩ := hy
  by_cases e : t = j
  · subst e; right; rw [List.take_length]; exact hm
  · exact .inl ⟨t, by omega, hm⟩

/-- What Quantile tells. -/
def QPost (L : List Lvl) (lo hi : Int) (r : Nat) (x : Int) : Prop := if r = 1 then x = lo else if r = wsum L then x = hi else Best L r hi x (doneL L L.length)

set_option maxHeartbeats 2000000 in
set_option maxRecDepth 100000 in
theorem skQuant_any (k g cap r : Nat) (lo hi : Int) (vs : List Value) (L : List Lvl) (w : World) (hL : LvAt F w g cap vs L) (hs : ∀ j, j < L.length → Srt (L.getD j Lvl.none).items) (hlen : L.length ≤ 30) (hbd : wsum L ≤ 1099511627776) (hr : r ≤ 1099511627776) :
    Calls Try.prog 57 #[skVal k g L.length cap lo hi, .int .i64 (r : Int)] w fun e w' => ∃ x, e = .returned (.int .i64 x) ∧ QPost L lo hi r x ∧ Below w.heap.size w w' := by
  have HU := hid (fun (x : Int) (w' : World) (hb : Below w.heap.size w w') => skUpTo_any k g cap lo hi x vs L w' (hL.below hb) hs hlen hbd)
  have HC := hid (fun (w' : World) (hb : Below w.heap.size w w') => count_any k g cap lo hi vs L w' (hL.below hb) hlen hbd)
  have HUB := hid (fun (x : Int) => usum_le x L)
  obtain ⟨n, hn⟩ : ∃ n, n = L.length := ⟨_, rfl⟩
  have HN := hid hn
  rw [← hn] at HU HC ⊢ hlen
  have HLV := hid hL
  clear hn hs hL
  go_enter Try.func57, Try.ntmps57
  by_cases h1 : r = 1
  · subst h1
    go_wp2_with fail
    go_ret
    exact ⟨lo, rfl, by unfold QPost; rw [if_pos rfl], (Below.refl _ _).alloc (Nat.le_refl _) _⟩
  · have h1' : ((r : Int) == 1) = false := by simp; omega
    have H1 := hid h1
    clear h1
    go_wp2_with fail
    have hbA : Below w.heap.size w (w.alloc (.cells #[.int .i64 (k : Int), .slice (some ⟨g, 0, none⟩) n cap, .int .i64 lo, .int .i64 hi] 97)) := (Below.refl w.heap.size w).alloc (Nat.le_refl _) _
    refine (HC.out _ hbA).mono ?_
    rintro e w1 ⟨rfl, hb1⟩
    have hk1 := below_new hb1 (by simp)
    have HB1 : Hid (Below w.heap.size w w1) := hbA.trans (hb1.mono hbA.size)
    have hsz1 : w.heap.size < w1.heap.size := lt_of_blk' hk1
    have HK1 := hid hk1
    obtain ⟨e0, e1, e2, e3, ez⟩ := blk4 hk1
    clear hb1 hbA hk1 HC
    by_cases h2 : r = wsum L
    · have h2' : ((r : Int) == (wsum L : Int)) = true := by simp [h2]
      have H2 := hid h2
      clear h2
      go_wp2_with fail
      go_ret
      exact ⟨hi, rfl, by unfold QPost; rw [if_neg H1.out, if_pos H2.out], HB1.out⟩
    · have h2' : ((r : Int) == (wsum L : Int)) = false := by simp; omega
      have H2 := hid h2
      clear h2
      go_wp2_with fail
      go_loopw [5, 24] (fun sb si wr => ∃ (j : Nat) (b : Int), j ≤ n ∧ si = .int .i64 j ∧ sb = .int .i64 b ∧ Hid (Best L r hi b (doneL L j)) ∧ Hid (Below w1.heap.size w1 wr)) (fun _ si _ => n - (intOf si).toNat)
      case atStart => exact ⟨0, hi, Nat.zero_le _, rfl, rfl, ⟨Int.le_refl _, .inl rfl, fun y hy => by obtain ⟨t, ht, _⟩ := hy; omega⟩, Below.refl _ _⟩
      case round =>
        obtain ⟨j, b, hj, rfl, rfl, Hbest, Hb⟩ := hrel
        obtain ⟨wo, hwo⟩ : ∃ wo, wo = wr := ⟨wr, rfl⟩
        subst hwo
        by_cases hlt : j < n
        · have hltL : j < L.length := by rw [← HN.out]; exact hlt
          have hbw : Below w.heap.size w wo := HB1.out.trans (Hb.out.mono HB1.out.size)
          have hLr := HLV.out.below hbw
          obtain ⟨ao, cc, ev, hcl, hcm, hno, hso⟩ := (hLr.its j hltL).form
          have c0 := hLr.cell0 hltL
          rw [ev] at c0
          have c1 := hLr.cell1 hltL
          have HNO := hid hno
          have HSO := hid hso
          have hil : (L.getD j Lvl.none).items.length ≤ 1099511627776 := by have := nsum_at hltL; have := nsum_le L; omega
          have hgz : g < wo.heap.size := hLr.lt
          have HBW := hid hbw
          generalize hits : (L.getD j Lvl.none).items = its at *
          have HIT := hid hits
          generalize hm : its.length = m at *
          have HM := hid hm
          generalize (L.getD j Lvl.none).times = tm at *
          have hs1 : (0 : Int) ≤ (j : Int) := by omega
          have hs2 : (j : Int) < (n : Int) := by omega
          have hwoz : w.heap.size < wo.heap.size := by have := Hb.out.size; omega
          clear hLr ev hno hso hbw hits hm
          go_wp2_with fail
          have hB5 : Below wo.heap.size wo (wo.alloc (.cells #[.slice ao m cc, .int .i64 (tm : Int)] 103)) := (Below.refl _ _).alloc (Nat.le_refl _) _
          go_loopw [5, 31] (fun sb si wr => ∃ (t : Nat) (b : Int), t ≤ m ∧ si = .int .i64 t ∧ sb = .int .i64 b ∧ Hid (Best L r hi b (doneI L j t)) ∧ Hid (Below wo.heap.size wo wr)) (fun _ si _ => m - (intOf si).toNat)
          case atStart => exact ⟨0, b, Nat.zero_le _, rfl, rfl, Hbest.out.keep (fun y hy => .inl (by rcases hy with h | h; exact h; simp at h)), hB5⟩
          case round =>
            clear Hbest
            obtain ⟨t, b2, ht, rfl, rfl, Hbest, Hb2⟩ := hrel
            by_cases htm : t < m
            · obtain ⟨gc, rfl⟩ : ∃ g, ao = some ⟨g, 0, none⟩ := by
                cases ao with
                | none => have h9 := (HNO.out rfl).1; have h8 := HM.out; rw [h9] at h8; simp at h8; omega
                | some a => obtain ⟨g, rfl, _⟩ := HSO.out a rfl; exact ⟨g, rfl⟩
              obtain ⟨gc', e9, hgc, hcc⟩ := HSO.out _ rfl
              cases e9
              have hcell : wr.cell? ⟨gc, t, none⟩ = some (.int .i64 (its.getD t 0)) := (Hb2.out.cell (by exact hgc)).trans (hcc t htm)
              have hbw2 : Below w.heap.size w wr := HBW.out.trans (Hb2.out.mono HBW.out.size)
              have hkb := (Hb2.out.block w.heap.size hwoz).trans ((Hb.out.block w.heap.size hsz1).trans HK1.out)
              obtain ⟨f0, f1, f2, f3, fz⟩ := blk4 hkb
              have HMS := hid (fun hn => Hbest.out.miss (by rw [HIT.out, HM.out]; exact htm) hn)
              have HHT := hid (fun h1 h2 => Hbest.out.hit hltL (by rw [HIT.out, HM.out]; exact htm) h1 h2)
              rw [HIT.out] at HMS HHT
              have hs3 : (0 : Int) ≤ (t : Int) := by omega
              have hs4 : (t : Int) < (m : Int) := by omega
              generalize its.getD t 0 = y at *
              have HUP := hid (HU.out y wr hbw2)
              have huy := HUB.out y
              clear hcc hkb hbw2 c0 c1
              by_cases hy : y < b2
              · have hy' : decide (y < b2) = true := decide_eq_true hy
                generalize usum y L = uy at *
                by_cases hg : r ≤ uy
                · have hg' : decide ((r : Int) ≤ (uy : Int)) = true := decide_eq_true (by omega)
                  go_wp2_with (first | (go_at_call 67; refine HUP.out.mono ?_; rintro e w5 ⟨rfl, hb5⟩; have HB5 := hid hb5; clear hb5))
                  go_roundw
                  case rel => exact ⟨t + 1, y, by omega, by go_num, rfl, HHT.out hy hg, Hb2.out.trans (HB5.out.mono Hb2.out.size)⟩
                  case measure => simp [intOf]; omega
                · have hg' : decide ((r : Int) ≤ (uy : Int)) = false := decide_eq_false (by omega)
                  have HG := hid hg
                  go_wp2_with (first | (go_at_call 67; refine HUP.out.mono ?_; rintro e w5 ⟨rfl, hb5⟩; have HB5 := hid hb5; clear hb5))
                  go_roundw
                  case rel => exact ⟨t + 1, b2, by omega, by go_num, rfl, HMS.out (fun h9 => HG.out h9.2), Hb2.out.trans (HB5.out.mono Hb2.out.size)⟩
                  case measure => simp [intOf]; omega
              · have hy' : decide (y < b2) = false := decide_eq_false hy
                have HY := hid hy
                go_wp2_with fail
                go_roundw
                case rel => exact ⟨t + 1, b2, by omega, by go_num, rfl, HMS.out (fun h9 => HY.out h9.1), Hb2⟩
                case measure => simp [intOf]; omega
            · obtain rfl : t = m := by omega
              have HX : Hid (Best L r hi b2 (doneL L (j + 1))) := by
                have h9 := Hbest.out
                rw [← HM.out, ← HIT.out] at h9
                exact h9.next
              go_wp2_with fail
              go_roundw
              case rel => exact ⟨j + 1, b2, by omega, by go_num, rfl, HX, Hb.out.trans (Hb2.out.mono Hb.out.size)⟩
              case measure => simp [intOf]; omega
        · obtain rfl : j = n := by omega
          go_wp2_with fail
          go_ret
          refine ⟨b, rfl, ?_, HB1.out.trans (Hb.out.mono HB1.out.size)⟩
          unfold QPost
          rw [if_neg H1.out, if_neg H2.out, ← HN.out]
          exact Hbest.out

end Go.Proofs.Ytklicjbpjigfdaa
