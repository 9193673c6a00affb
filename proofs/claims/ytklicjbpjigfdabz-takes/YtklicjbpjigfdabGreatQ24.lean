/- DERIVED. The walk of the desk's Quantile. -/
import Derived.Test.YtklicjbpjigfdabGreatQ17
import Derived.Test.YtklicjbpjigfdabGreatQ9
import Derived.Test.YtklicjbpjigfdabGreatRefN
import Derived.Test.YtklicjbpjigfdabGreatQ22
import Derived.Test.YtklicjbpjigfdabGreatRankW
namespace Go.Proofs.YtklicjbpjigfdabGreat
open Go.RowKit
variable {F : Nat → Prop}

/-- What the desk's Quantile answers. -/
def DQPost (L : List Lvl) (lo hi r : Int) (e : Ending) : Prop :=
  if wsum L = 0 then e = .returned (.tuple #[.int .i64 0, .int .i64 8]) else if r < 1 ∨ (wsum L : Int) < r then e = .returned (.tuple #[.int .i64 0, .int .i64 1]) else ∃ x, e = .returned (.tuple #[.int .i64 x, .int .i64 0]) ∧ QPost L lo hi r.toNat x

set_option maxHeartbeats 1000000 in
set_option maxRecDepth 100000 in
theorem deskQuant (d : Nat) (D : Dk) (i : Nat) (r : Int) (w : World) (h : DeskAt F w d D) (hi : i < D.sks.length) (hok : (D.sks.getD i Hd.none).Ok) (hs : ∀ j, j < (D.sks.getD i Hd.none).sk.lv.length → Srt ((D.sks.getD i Hd.none).sk.lv.getD j Lvl.none).items) :
    Calls Tryz.prog 48 #[.pointer (some ⟨d, 0, none⟩), .int .i64 (i : Int), .int .i64 r] w fun e w' => DQPost (D.sks.getD i Hd.none).sk.lv (D.sks.getD i Hd.none).sk.lo (D.sks.getD i Hd.none).sk.hi r e ∧ Below w.heap.size w w' := by
  obtain ⟨vt, vk, rs, h⟩ := h
  have hdz := lt_of_blk' h.blk
  obtain ⟨g, c, rfl, hg, q0, q1, q2, q3, q4⟩ := h.cells5 hi
  obtain ⟨_, _, c2, _⟩ := blk3 h.blk
  have HH := hid (has_any d (i : Int) _ _ _ _ c2)
  rw [hasB_nat hi] at HH
  have hlv := h.lv i hi
  have HC := hid (fun (w' : World) (hb : Below w.heap.size w w') => count_any (D.sks.getD i Hd.none).sk.k _ _ (D.sks.getD i Hd.none).sk.lo (D.sks.getD i Hd.none).sk.hi _ _ w' (hlv.below hb) (by have := hok.len; omega) (by have := hok.cnt; omega))
  have HR := hid (fun (n : Nat) (hn : n ≤ 1099511627776) (w' : World) (hb : Below w.heap.size w w') => skQuant_any (D.sks.getD i Hd.none).sk.k _ _ n (D.sks.getD i Hd.none).sk.lo (D.sks.getD i Hd.none).sk.hi _ _ w' (hlv.below hb) hs (by have := hok.len; omega) (by have := hok.cnt; omega) hn)
  have hcnt := hok.cnt
  generalize (D.sks.getD i Hd.none).sk = sk at *
  generalize rs.getD i Ref.none = rr at *
  generalize (D.sks.getD i Hd.none).sealed = sl at *
  generalize D.sks.length = n at *
  generalize hwe : wsum sk.lv = ws at *
  have HWE := hid hwe
  clear h hok hlv hs hwe
  go_enter Tryz.func48, Tryz.ntmps48
  go_wp2_with (first | (go_at_call 59; refine HH.out.mono ?_; rintro e w' ⟨rfl, hw⟩; obtain rfl := hw.symm))
  have hbB : Below w.heap.size w (w.alloc (skBlk sk.k rr.g sk.lv.length rr.cap sk.lo sk.hi)) := (Below.refl w.heap.size w).alloc (Nat.le_refl _) _
  refine (HC.out _ hbB).mono ?_
  rintro e w1 ⟨rfl, hb1⟩
  have hk1 := below_new hb1 (by simp)
  have HB1 : Hid (Below w.heap.size w w1) := hbB.trans (hb1.mono hbB.size)
  obtain ⟨e0, e1, e2, e3, ez⟩ := blk4 hk1
  clear hb1 hbB hk1 HC
  by_cases h0 : ws = 0
  · subst h0
    go_wp2_with fail
    go_ret2
    refine ⟨?_, HB1.out⟩
    unfold DQPost
    rw [HWE.out, if_pos rfl]
    simp
  · have h0' : ((ws : Int) == 0) = false := by simpa using h0
    have HNE := hid h0
    clear h0
    by_cases h1 : r < 1
    · have h1' : decide (r < 1) = true := decide_eq_true h1
      have H1 := hid h1
      go_wp2_with fail
      go_ret2
      refine ⟨?_, HB1.out⟩
      unfold DQPost
      rw [HWE.out, if_neg HNE.out, if_pos (.inl H1.out)]
      simp
    · have h1' : decide (r < 1) = false := decide_eq_false h1
      by_cases h2 : (ws : Int) < r
      · have h2' : decide ((ws : Int) < r) = true := decide_eq_true h2
        have H2 := hid h2
        go_wp2_with fail
        go_ret2
        refine ⟨?_, HB1.out⟩
        unfold DQPost
        rw [HWE.out, if_neg HNE.out, if_pos (.inr H2.out)]
        simp
      · have h2' : decide ((ws : Int) < r) = false := decide_eq_false h2
        have H12 : Hid (¬ (r < 1 ∨ (ws : Int) < r)) := fun h => h.elim h1 h2
        obtain ⟨rn, rfl⟩ : ∃ rn : Nat, r = (rn : Int) := ⟨r.toNat, by omega⟩
        have HQ := hid (HR.out rn (by omega))
        clear HR
        go_wp2_with fail
        refine (HQ.out _ HB1.out).mono ?_
        rintro e w2 ⟨x, rfl, hx, hb2⟩
        have HX := hid hx
        have HB2 : Hid (Below w.heap.size w w2) := HB1.out.trans (hb2.mono HB1.out.size)
        clear hx hb2
        go_wp2_with fail
        go_ret2
        refine ⟨?_, HB2.out⟩
        unfold DQPost
        rw [HWE.out, if_neg HNE.out, if_neg H12.out]
        exact ⟨x, by simp, by simpa using HX.out⟩

end Go.Proofs.YtklicjbpjigfdabGreat

/- DERIVED. The walk of the document's own Quantile. -/
namespace Go.Proofs.YtklicjbpjigfdabGreat
open Go.RowKit
attribute [local go_sem ↓] Go.wp_at_zero Go.wp_at_succ
variable {G : Nat → Prop}

/-- The least item whose rank suffices. -/
def QLeast (L : List Lvl) (r : Nat) (x : Int) : Prop := x ∈ itemsAll L ∧ r ≤ usum x L ∧ ∀ y ∈ itemsAll L, r ≤ usum y L → x ≤ y
theorem QLeast.one {L : List Lvl} {r : Nat} {x y : Int} (hx : QLeast L r x) (hy : QLeast L r y) : x = y := Int.le_antisymm (hx.2.2 y hy.1 hy.2.1) (hy.2.2 x hx.1 hx.2.1)
/-- What Quantile answers. -/
def QAns (L : List Lvl) (lo hi r : Int) (x c : Int) : Prop :=
  (wsum L = 0 ∧ x = 0 ∧ c = 8) ∨ (0 < wsum L ∧ (r < 1 ∨ (wsum L : Int) < r) ∧ x = 0 ∧ c = 1) ∨
    (0 < wsum L ∧ 1 ≤ r ∧ r ≤ (wsum L : Int) ∧ c = 0 ∧ ((r = 1 ∧ x = lo) ∨ (r ≠ 1 ∧ r = (wsum L : Int) ∧ x = hi) ∨ (r ≠ 1 ∧ r ≠ (wsum L : Int) ∧ QLeast L r.toNat x)))
theorem QAns.det {L : List Lvl} {lo hi r x c x' c' : Int} (h : QAns L lo hi r x c) (k : QAns L lo hi r x' c') : x = x' ∧ c = c' := by
  unfold QAns at h k
  rcases h with ⟨a1, a2, a3⟩ | ⟨a1, a2, a3, a4⟩ | ⟨a1, a2, a3, a4, a5⟩ <;> rcases k with ⟨b1, b2, b3⟩ | ⟨b1, b2, b3, b4⟩ | ⟨b1, b2, b3, b4, b5⟩
  · exact ⟨a2.trans b2.symm, a3.trans b3.symm⟩
  · omega
  · omega
  · omega
  · exact ⟨a3.trans b3.symm, a4.trans b4.symm⟩
  · omega
  · omega
  · omega
  · refine ⟨?_, a4.trans b4.symm⟩
    rcases a5 with ⟨p, q⟩ | ⟨p, q, s⟩ | ⟨p, q, s⟩ <;> rcases b5 with ⟨p', q'⟩ | ⟨p', q', s'⟩ | ⟨p', q', s'⟩
    · exact q.trans q'.symm
    · exact absurd p p'
    · exact absurd p p'
    · exact absurd p' p
    · exact s.trans s'.symm
    · exact absurd q q'
    · exact absurd p' p
    · exact absurd q' q
    · exact s.one s'
/-- The program's. -/
theorem DQPost.ans {L : List Lvl} {lo hi r : Int} {e : Ending} (h : DQPost L lo hi r e) (hh : ∀ z ∈ itemsAll L, z ≤ hi) : ∃ x c, e = .returned (.tuple #[.int .i64 x, .int .i64 c]) ∧ QAns L lo hi r x c := by
  unfold DQPost at h
  by_cases h0 : wsum L = 0
  · rw [if_pos h0] at h
    exact ⟨0, 8, h, .inl ⟨h0, rfl, rfl⟩⟩
  · rw [if_neg h0] at h
    by_cases h1 : r < 1 ∨ (wsum L : Int) < r
    · rw [if_pos h1] at h
      exact ⟨0, 1, h, .inr (.inl ⟨by omega, h1, rfl, rfl⟩)⟩
    · rw [if_neg h1] at h
      obtain ⟨x, he, hq⟩ := h
      refine ⟨x, 0, he, .inr (.inr ⟨by omega, by omega, by omega, rfl, ?_⟩)⟩
      unfold QPost at hq
      by_cases h2 : r = 1
      · rw [if_pos (by omega)] at hq
        exact .inl ⟨h2, hq⟩
      · rw [if_neg (by omega)] at hq
        by_cases h3 : r = (wsum L : Int)
        · rw [if_pos (by omega)] at hq
          exact .inr (.inl ⟨h2, h3, hq⟩)
        · rw [if_neg (by omega)] at hq
          exact .inr (.inr ⟨h2, h3, best_least (by omega) (by omega) hh hq⟩)

/-- What the document's Quantile answers, as an ending. -/
def RQPost (L : List Lvl) (lo hi r : Int) (e : Ending) : Prop := ∃ x c, e = .returned (.tuple #[.int .i64 x, .int .i64 c]) ∧ QAns L lo hi r x c
theorem RQPost.mk {L : List Lvl} {lo hi r x c : Int} {e : Ending} (he : e = .returned (.tuple #[.int .i64 x, .int .i64 c])) (h : QAns L lo hi r x c) : RQPost L lo hi r e := ⟨x, c, he, h⟩

/-- As far as Quantile has come. -/
def QSt (bag : List (Int × Nat)) (U : Int → Nat) (r : Int) (j : Nat) (fb : Bool) (x : Int) : Prop :=
  (fb = false ∧ ∀ z ∈ bag.take j, (U z.1 : Int) < r) ∨ (fb = true ∧ (∃ z ∈ bag.take j, z.1 = x) ∧ r ≤ (U x : Int) ∧ ∀ z ∈ bag.take j, r ≤ (U z.1 : Int) → x ≤ z.1)
theorem mem_take_succ {bag : List (Int × Nat)} {j : Nat} (h : j < bag.length) {z : Int × Nat} : z ∈ bag.take (j + 1) ↔ z ∈ bag.take j ∨ z = bag.getD j (0, 0) := by
  rw [List.take_succ_eq_append_getElem h, List.mem_append, List.mem_singleton]
  simp [List.getD, h]
theorem QSt.skip {bag : List (Int × Nat)} {U : Int → Nat} {r : Int} {j : Nat} {fb : Bool} {x : Int} (h : QSt bag U r j fb x) (hj : j < bag.length) (hs : (U (bag.getD j (0, 0)).1 : Int) < r ∨ (fb = true ∧ x ≤ (bag.getD j (0, 0)).1)) : QSt bag U r (j + 1) fb x := by
  rcases h with ⟨h1, h2⟩ | ⟨h1, ⟨z, hz, e⟩, h3, h4⟩
  · refine .inl ⟨h1, fun z hz => ?_⟩
    rcases (mem_take_succ hj).1 hz with hz | rfl
    · exact h2 z hz
    · rcases hs with hs | ⟨hs, _⟩
      · exact hs
      · rw [h1] at hs; cases hs
  · refine .inr ⟨h1, ⟨z, (mem_take_succ hj).2 (.inl hz), e⟩, h3, fun y hy hr => ?_⟩
    rcases (mem_take_succ hj).1 hy with hy | rfl
    · exact h4 y hy hr
    · rcases hs with hs | ⟨_, hs⟩
      · omega
      · exact hs
theorem QSt.take {bag : List (Int × Nat)} {U : Int → Nat} {r : Int} {j : Nat} {fb : Bool} {x : Int} (h : QSt bag U r j fb x) (hj : j < bag.length) (hr : r ≤ (U (bag.getD j (0, 0)).1 : Int)) (hs : fb = false ∨ (bag.getD j (0, 0)).1 < x) : QSt bag U r (j + 1) true (bag.getD j (0, 0)).1 := by
  refine .inr ⟨rfl, ⟨_, (mem_take_succ hj).2 (.inr rfl), rfl⟩, hr, fun y hy hry => ?_⟩
  rcases (mem_take_succ hj).1 hy with hy | rfl
  · rcases h with ⟨h1, h2⟩ | ⟨h1, _, h3, h4⟩
    · have := h2 y hy; omega
    · rcases hs with hs | hs
      · rw [h1] at hs; cases hs
      · have := h4 y hy hry; omega
  · exact Int.le_refl _
theorem QSt.last {bag : List (Int × Nat)} {L : List Lvl} {r : Int} {fb : Bool} {x : Int} {j : Nat} (h : QSt bag (fun y => usum y L) r j fb x) (hj : bag.length ≤ j) (hB : BagOf bag L) (h1 : 1 ≤ r) (h2 : r ≤ (wsum L : Int)) (h0 : 0 < wsum L) : QLeast L r.toNat x := by
  unfold QSt at h
  rw [List.take_of_length_le hj] at h
  rcases h with ⟨_, h3⟩ | ⟨_, ⟨z, hz, e⟩, h4, h5⟩
  · exfalso
    obtain ⟨m, hm, hmm⟩ : ∃ m ∈ itemsAll L, ∀ z ∈ itemsAll L, z ≤ m := by
      obtain ⟨y, hy⟩ : ∃ y, y ∈ itemsAll L := by
        rcases hI : itemsAll L with _ | ⟨y, l⟩
        · have := usum_full (q := 0) (L := L) (fun z hz => by rw [hI] at hz; cases hz)
          have h9 : usum 0 L = 0 := usum_none (fun z hz => by rw [hI] at hz; cases hz)
          omega
        · exact ⟨y, List.mem_cons_self⟩
      have : ∀ l : List Int, l ≠ [] → ∃ m ∈ l, ∀ z ∈ l, z ≤ m := by
        intro l
        induction l with
        | nil => intro h; exact absurd rfl h
        | cons a l ih =>
          intro _
          by_cases hl : l = []
          · subst hl; exact ⟨a, List.mem_cons_self, fun z hz => by simp at hz; omega⟩
          · obtain ⟨m, hm, hmm⟩ := ih hl
            by_cases hc : a ≤ m
            · exact ⟨m, List.mem_cons_of_mem _ hm, fun z hz => by
                rcases List.mem_cons.1 hz with rfl | hz
                · exact hc
                · exact hmm z hz⟩
            · exact ⟨a, List.mem_cons_self, fun z hz => by
                rcases List.mem_cons.1 hz with rfl | hz
                · exact Int.le_refl _
                · have := hmm z hz; omega⟩
      exact this _ (fun e => by rw [e] at hy; cases hy)
    obtain ⟨z, hz, e⟩ := (bag_items hB m).1 hm
    have := h3 z hz
    simp only at this
    rw [e, usum_full hmm] at this
    omega
  · refine ⟨(bag_items hB x).2 ⟨z, hz, e⟩, by simp only at h4; omega, fun y hy hry => ?_⟩
    obtain ⟨v, hv, ev⟩ := (bag_items hB y).1 hy
    have := h5 v hv (by rw [ev]; simp only; omega)
    omega

set_option maxHeartbeats 400000 in
theorem rquant_no (d : Nat) (A r : Int) (D : Dk) (w : World) (h : RAt G w d D) (hs : hasB A D.sks.length = false) :
    Calls Tryz.prog 49 #[.pointer (some ⟨d, 0, none⟩), .int .i64 A, .int .i64 r] w fun e w' => e = .returned (.tuple #[.int .i64 0, .int .i64 4]) ∧ w' = w := by
  obtain ⟨s, va, rs, h⟩ := h
  have HH := hid (rhas d A D s va rs _ h)
  rw [hs] at HH
  clear h
  go_enter Tryz.func49, Tryz.ntmps49
  go_wp2_with (go_at_call 63; refine HH.out.mono ?_; rintro e w' ⟨rfl, hw⟩; obtain rfl := hw.symm)
  go_ret2
  exact ⟨rfl, rfl⟩

set_option maxHeartbeats 4000000 in
set_option maxRecDepth 100000 in
theorem rquant_any (d i : Nat) (r : Int) (D : Dk) (w : World) (h : RAt G w d D) (hd : LInv D) (hi : i < D.sks.length) :
    Calls Tryz.prog 49 #[.pointer (some ⟨d, 0, none⟩), .int .i64 (i : Int), .int .i64 r] w fun e w' => RQPost (D.sks.getD i Hd.none).sk.lv (D.sks.getD i Hd.none).sk.lo (D.sks.getD i Hd.none).sk.hi r e ∧ Below w.heap.size w w' := by
  obtain ⟨s, va, rs, h⟩ := h
  have HH := hid (rhas d (i : Int) D s va rs _ h)
  rw [hasB_nat hi] at HH
  obtain ⟨g, c, rfl, hg, q0, q1, q2, q3, q4, q5, q6, qz⟩ := h.cells7 hi
  obtain ⟨c0, c1, c2, cz⟩ := blk3 h.blk
  have hdz := lt_of_blk' h.blk
  obtain ⟨hbl, hlow⟩ := h.bagLen hd hi
  have hk := h.sk i hi
  have hok := (hd.inv.sk i hi).ok
  have hcnt := hok.cnt
  obtain ⟨bo, bl, bc, tO, tl, tc, ko, kl, kc, e1, e2, e3, e4, e5⟩ := hk.forms
  have hem := bag_empty hk.bof
  have hen := hk.ends
  rw [← e4] at hem
  have HCO := hid (fun (w' : World) (hb : Below w.heap.size w w') => rcount_any (D.sks.getD i Hd.none).sk.k (.slice bo bl bc) (.slice tO tl tc) (.slice ko kl kc) (rs.getD i RRef.none).lo (rs.getD i RRef.none).hi (D.sks.getD i Hd.none).sealed (rs.getD i RRef.none).bag w' (by rw [← e1]; exact hk.bag.below hb) hbl hlow)
  have HBT := hid (fun (q : Int) (w' : World) (hb : Below w.heap.size w w') => rbetween_any (D.sks.getD i Hd.none).sk.k (.slice bo bl bc) (.slice tO tl tc) (.slice ko kl kc) (rs.getD i RRef.none).lo (rs.getD i RRef.none).hi 0 q (D.sks.getD i Hd.none).sealed false true (rs.getD i RRef.none).bag w' (by rw [← e1]; exact hk.bag.below hb) hbl hlow)
  rw [bagW_of hk.bof] at HCO
  have HBU := hid (fun q => btw_upto q hk.bof)
  have HLA := hid (fun (fb : Bool) (x : Int) (j : Nat) (hq : QSt (rs.getD i RRef.none).bag (fun y => usum y (D.sks.getD i Hd.none).sk.lv) r j fb x) (hj : (rs.getD i RRef.none).bag.length ≤ j) => hq.last hj hk.bof)
  have HBG : Hid (BagAt w (.slice bo bl bc) (rs.getD i RRef.none).bag) := by rw [← e1]; exact hk.bag
  rw [e1] at q1
  rw [e2] at q2
  rw [e3] at q6
  have hs2 : (i : Int) < (D.sks.length : Int) := by omega
  have HE4 := hid e4
  rw [← e4] at hbl
  generalize (D.sks.getD i Hd.none).sk.k = k at *
  generalize (D.sks.getD i Hd.none).sealed = sl at *
  generalize hLv : (D.sks.getD i Hd.none).sk.lv = L at *
  generalize hbg : (rs.getD i RRef.none).bag = bag at *
  generalize D.sks.length = n at *
  by_cases hb : bl = 0
  · have hb' : ((bl : Int) == 0) = true := by simp [hb]
    have HQ : Hid (QAns L (D.sks.getD i Hd.none).sk.lo (D.sks.getD i Hd.none).sk.hi r 0 8) := .inl ⟨hem.1 hb, rfl, rfl⟩
    clear h hk e1 e2 e3 e4 e5 hem hen hok q0 q2 q3 q4 q5 q6 hLv hbg
    go_enter Tryz.func49, Tryz.ntmps49
    go_wp2_with (go_at_call 63; refine HH.out.mono ?_; rintro e w' ⟨rfl, hw⟩; obtain rfl := hw.symm)
    go_ret2
    exact ⟨RQPost.mk rfl HQ.out, Below.refl _ _⟩
  have hb' : ((bl : Int) == 0) = false := by simp [hb]
  obtain ⟨hlo, hhi⟩ := hen (fun e => hb (by rw [e4, e]; rfl))
  rw [hlo] at q3 HCO HBT
  rw [hhi] at q4 HCO HBT
  generalize (D.sks.getD i Hd.none).sk.lo = lo at *
  generalize (D.sks.getD i Hd.none).sk.hi = hh at *
  have hws : 0 < wsum L := Nat.pos_of_ne_zero (fun e => hb (hem.2 e))
  clear h hk e1 e2 e3 e4 e5 hem hen hlo hhi hok hLv hbg
  have HQA : Hid (∀ x c, QAns L lo hh r x c = ((wsum L = 0 ∧ x = 0 ∧ c = 8) ∨ (0 < wsum L ∧ (r < 1 ∨ (wsum L : Int) < r) ∧ x = 0 ∧ c = 1) ∨ (0 < wsum L ∧ 1 ≤ r ∧ r ≤ (wsum L : Int) ∧ c = 0 ∧ ((r = 1 ∧ x = lo) ∨ (r ≠ 1 ∧ r = (wsum L : Int) ∧ x = hh) ∨ (r ≠ 1 ∧ r ≠ (wsum L : Int) ∧ QLeast L r.toNat x))))) := fun _ _ => rfl
  have HMK : Hid (∀ (x c : Int) (e : Ending), e = .returned (.tuple #[.int .i64 x, .int .i64 c]) → QAns L lo hh r x c → RQPost L lo hh r e) := fun _ _ _ => RQPost.mk
  have HUL := hid (fun q => usum_le q L)
  generalize QAns L lo hh r = QA at *
  generalize RQPost L lo hh r = RQ at *
  generalize wsum L = ws at *
  have HB1 := hid (below_new_al (w := w) (rsBlk k (.slice bo bl bc) (.slice tO tl tc) lo hh sl (.slice ko kl kc)))
  have HX1 := hid (heap_alloc_new w (rsBlk k (.slice bo bl bc) (.slice tO tl tc) lo hh sl (.slice ko kl kc)))
  go_enter Tryz.func49, Tryz.ntmps49
  go_upto_region 7 with (go_at_call 63; refine HH.out.mono ?_; rintro e w' ⟨rfl, hw⟩; obtain rfl := hw.symm)
  have hzz : w.heap.size < (w.alloc (rsBlk k (.slice bo bl bc) (.slice tO tl tc) lo hh sl (.slice ko kl kc))).heap.size := by simp
  generalize (w.alloc (rsBlk k (.slice bo bl bc) (.slice tO tl tc) lo hh sl (.slice ko kl kc))) = wA at *
  obtain ⟨k0, k1, k2, k3, k4, k5, k6, kz⟩ := blk7' HX1.out
  clear q0 q1 q2 q3 q4 q5 q6 qz c0 c1 c2 cz HH hg hdz
  go_wp2_with fail
  refine (HCO.out _ HB1.out).mono ?_
  rintro e w2 ⟨rfl, hb2⟩
  have HB2 := hid (HB1.out.trans (hb2.mono HB1.out.size))
  have HX2 := hid ((hb2.block _ hzz).trans HX1.out)
  clear k0 k1 k2 k3 k4 k5 k6 kz hb2 HX1 HB1 hzz HCO
  obtain ⟨k0, k1, k2, k3, k4, k5, k6, kz⟩ := blk7' HX2.out
  have hzz := lt_of_blk' HX2.out
  by_cases a1 : r < 1
  · go_wp2_with fail
    go_ret2
    exact ⟨HMK.out 0 1 _ rfl (by rw [HQA.out]; exact .inr (.inl ⟨hws, .inl a1, rfl, rfl⟩)), HB2.out⟩
  by_cases a2 : (ws : Int) < r
  · go_wp2_with fail
    go_ret2
    exact ⟨HMK.out 0 1 _ rfl (by rw [HQA.out]; exact .inr (.inl ⟨hws, .inr a2, rfl, rfl⟩)), HB2.out⟩
  by_cases a3 : r = 1
  · have a3' : (r == 1) = true := by simp [a3]
    go_wp2_with fail
    go_ret2
    exact ⟨HMK.out lo 0 _ rfl (by rw [HQA.out]; exact .inr (.inr ⟨hws, by omega, by omega, rfl, .inl ⟨a3, rfl⟩⟩)), HB2.out⟩
  have a3' : (r == 1) = false := by simpa using a3
  by_cases a4 : r = (ws : Int)
  · have a4' : (r == (ws : Int)) = true := by simp [a4]
    go_wp2_with fail
    go_ret2
    exact ⟨HMK.out hh 0 _ rfl (by rw [HQA.out]; exact .inr (.inr ⟨hws, by omega, by omega, rfl, .inr (.inl ⟨a3, a4, rfl⟩)⟩)), HB2.out⟩
  have a4' : (r == (ws : Int)) = false := by simpa using a4
  go_wp2_with fail
  go_loopw [11, 12, 13] (fun sf sx si wr => ∃ (fb : Bool) (x : Int) (j : Nat), j ≤ bl ∧ sf = .bool fb ∧ sx = .int .i64 x ∧ si = .int .i64 j ∧ Hid (QSt bag (fun y => usum y L) r j fb x) ∧ Hid (Below w.heap.size w wr) ∧ Hid (wr.heap[w.heap.size]? = some (rsBlk k (.slice bo bl bc) (.slice tO tl tc) lo hh sl (.slice ko kl kc)))) (fun _ _ si _ => bl - (intOf si).toNat)
  case atStart => exact ⟨false, 0, 0, Nat.zero_le _, rfl, rfl, rfl, .inl ⟨rfl, fun z hz => by simp at hz⟩, HB2, HX2⟩
  case round =>
    obtain ⟨fb, x, j, hj, rfl, rfl, rfl, Hq, Hb, Hx⟩ := hrel
    clear k0 k1 k2 k3 k4 k5 k6 kz hzz HB2 HX2
    obtain ⟨k0, k1, k2, k3, k4, k5, k6, kz⟩ := blk7' Hx.out
    have hzz := lt_of_blk' Hx.out
    by_cases hlt : j < bl
    · have hlt' : j < bag.length := by rw [← HE4.out]; exact hlt
      obtain ⟨g', rfl, hg, hx, hh2⟩ := HBG.out.cells hlt'
      have hx' := (Hb.out.cell (p := ⟨g', j * 2, none⟩) hg).trans hx
      have HSK := hid (fun hs => Hq.out.skip hlt' hs)
      have HTK := hid (fun hr hs => Hq.out.take hlt' hr hs)
      clear hx hh2
      generalize (bag.getD j (0, 0)).1 = y at *
      have HBY := hid (HBT.out y wr Hb.out)
      rw [HBU.out] at HBY
      have huy := HUL.out y
      have HSK2 : Hid ((usum y L : Int) < r ∨ (fb = true ∧ x ≤ y) → QSt bag (fun y => usum y L) r (j + 1) fb x) := HSK.out
      have HTK2 : Hid (r ≤ (usum y L : Int) → (fb = false ∨ y < x) → QSt bag (fun y => usum y L) r (j + 1) true y) := HTK.out
      clear HSK HTK
      generalize usum y L = uy at *
      go_upto_region 20 with fail
      go_wp2_with fail
      refine HBY.out.mono ?_
      rintro e w3 ⟨rfl, hb3⟩
      have HB3 := hid (Hb.out.trans (hb3.mono Hb.out.size))
      have HX3 := hid ((hb3.block _ hzz).trans Hx.out)
      clear k0 k1 k2 k3 k4 k5 k6 kz hb3 hx' HBY
      by_cases b1 : r ≤ (uy : Int)
      · cases fb
        · have HN := hid (HTK2.out b1 (.inl rfl))
          go_wp2_with fail
          go_roundw
          case rel => exact ⟨true, y, j + 1, by omega, rfl, rfl, by go_num, HN, HB3, HX3⟩
          case measure => simp [intOf]; omega
        · by_cases b2 : y < x
          · have HN := hid (HTK2.out b1 (.inr b2))
            go_wp2_with fail
            go_roundw
            case rel => exact ⟨true, y, j + 1, by omega, rfl, rfl, by go_num, HN, HB3, HX3⟩
            case measure => simp [intOf]; omega
          · have HN := hid (HSK2.out (.inr ⟨rfl, by omega⟩))
            go_wp2_with fail
            go_roundw
            case rel => exact ⟨true, x, j + 1, by omega, rfl, rfl, by go_num, HN, HB3, HX3⟩
            case measure => simp [intOf]; omega
      · have HN := hid (HSK2.out (.inl (by omega)))
        go_wp2_with fail
        go_roundw
        case rel => exact ⟨fb, x, j + 1, by omega, rfl, rfl, by go_num, HN, HB3, HX3⟩
        case measure => simp [intOf]; omega
    · have HF := hid (HLA.out fb x j Hq.out (by rw [← HE4.out]; omega) (by omega) (by omega) hws)
      go_wp2_with fail
      go_ret2
      exact ⟨HMK.out x 0 _ rfl (by rw [HQA.out]; exact .inr (.inr ⟨hws, by omega, by omega, rfl, .inr (.inr ⟨a3, a4, HF.out⟩)⟩)), Hb.out⟩

end Go.Proofs.YtklicjbpjigfdabGreat

/- DERIVED. One step on both desks: Quantile. -/
namespace Go.Proofs.YtklicjbpjigfdabGreat
open Go.RowKit
attribute [local go_sem ↓] Go.wp_at_zero Go.wp_at_succ

/-- What both answer: told by the desk and the arguments alone. -/
def QTold (D : Dk) (A r x c : Int) : Prop := if hasB A D.sks.length then QAns (D.sks.getD A.toNat Hd.none).sk.lv (D.sks.getD A.toNat Hd.none).sk.lo (D.sks.getD A.toNat Hd.none).sk.hi r x c else (x = 0 ∧ c = 4)
theorem QTold.det {D : Dk} {A r x c x' c' : Int} (h : QTold D A r x c) (k : QTold D A r x' c') : x = x' ∧ c = c' := by
  unfold QTold at h k
  split at h
  · rename_i hs; rw [if_pos hs] at k; exact h.det k
  · rename_i hs; rw [if_neg hs] at k; exact ⟨h.1.trans k.1.symm, h.2.trans k.2.symm⟩
theorem quantT {F : Nat → Prop} (d : Nat) (A r : Int) (D : Dk) (w : World) (h : DeskAt F w d D) (hd : LInv D) :
    Calls Tryz.prog 48 #[.pointer (some ⟨d, 0, none⟩), .int .i64 A, .int .i64 r] w fun e w' => (∃ x c, e = .returned (.tuple #[.int .i64 x, .int .i64 c]) ∧ QTold D A r x c) ∧ Below w.heap.size w w' := by
  cases hs : hasB A D.sks.length with
  | false =>
    refine (deskQuant_no d D A r w h hs).mono (fun e w' ⟨he, hw⟩ => ⟨⟨0, 4, he, ?_⟩, by rw [hw]; exact Below.refl _ _⟩)
    unfold QTold; rw [hs]; exact ⟨rfl, rfl⟩
  | true =>
    obtain ⟨i, rfl, hi⟩ := hasB_at hs
    refine (deskQuant d D i r w h hi (hd.inv.sk i hi).ok (fun j _ => ((hd.ok i hi).srt.at j).1)).mono (fun e w' ⟨hp, hb⟩ => ⟨?_, hb⟩)
    obtain ⟨x, c, he, hq⟩ := hp.ans (fun z hz => ((hd.ok i hi).ends z hz).2)
    refine ⟨x, c, he, ?_⟩
    unfold QTold; rw [hs, Int.toNat_natCast, if_pos rfl]; exact hq
theorem rquantT {G : Nat → Prop} (d : Nat) (A r : Int) (D : Dk) (w : World) (h : RAt G w d D) (hd : LInv D) :
    Calls Tryz.prog 49 #[.pointer (some ⟨d, 0, none⟩), .int .i64 A, .int .i64 r] w fun e w' => (∃ x c, e = .returned (.tuple #[.int .i64 x, .int .i64 c]) ∧ QTold D A r x c) ∧ Below w.heap.size w w' := by
  cases hs : hasB A D.sks.length with
  | false =>
    refine (rquant_no d A r D w h hs).mono (fun e w' ⟨he, hw⟩ => ⟨⟨0, 4, he, ?_⟩, by rw [hw]; exact Below.refl _ _⟩)
    unfold QTold; rw [hs]; exact ⟨rfl, rfl⟩
  | true =>
    obtain ⟨i, rfl, hi⟩ := hasB_at hs
    refine (rquant_any d i r D w h hd hi).mono (fun e w' ⟨⟨x, c, he, hq⟩, hb⟩ => ⟨⟨x, c, he, ?_⟩, hb⟩)
    unfold QTold; rw [hs, Int.toNat_natCast, if_pos rfl]; exact hq

set_option maxHeartbeats 2000000 in
set_option maxRecDepth 100000 in
theorem lquant_any (p pd pr : Nat) (a b c : Int) (s : ByteArray) (vl : Value) (D : Dk) (M : List Le) (w0 w : World) (h : LwSt w0 w p pd pr D D M) (hd : LInv D) (hx : ∀ i, i < M.length → (M.getD i Le.none).xs.length ≤ 1099511627776) :
    Calls Tryz.prog 18 #[.pointer (some ⟨p, 0, none⟩), opVal 11 a b c s vl] w fun e w' => e = .returned (.bool true) ∧ StepPost w0 p pd pr M w' := by
  obtain ⟨F, G, hT, hpw⟩ := h.tell
  have b0 : (w.alloc (opBlk 11 a b c s vl)).drew.heap[w.heap.size]? = some (opBlk 11 a b c s vl) := heap_alloc_new w _
  have k0 : Below w.heap.size w (w.alloc (opBlk 11 a b c s vl)).drew := below_drewn (below_new_al _)
  obtain ⟨hdk, _, c0, _, hpz⟩ := hT _ k0
  have HF := hid (quantT pd a b D _ hdk hd)
  have HR2 := hid (fun (W : World) (hW : Below w.heap.size w W) => rquantT pr a b D W (hT W hW).2.1 hd)
  have HT1 : Hid (∀ W, Below w.heap.size w W → W.cell? ⟨p, 0, none⟩ = some (.pointer (some ⟨pd, 0, none⟩)) ∧ W.cell? ⟨p, 1, none⟩ = some (.pointer (some ⟨pr, 0, none⟩)) ∧ p < W.heap.size) := fun W hW => (hT W hW).2.2
  have HNU := hid (fun (v : Int) (W : World) => lnum_any v W)
  have HPO : Hid (∀ W, Below w.heap.size w W → StepPost w0 p pd pr M W) := fun W hW => StepPost.same (h.below hW) hd hx
  obtain ⟨q0, q1, q2, q3, q4, q5⟩ := blk6 b0
  have HB0 := hid b0
  have HK0 := hid k0
  have hqz := lt_of_blk' b0
  have hS0 : (w.alloc (opBlk 11 a b c s vl)).drew.cell? ⟨p, 0, none⟩ = some (.pointer (some ⟨pd, 0, none⟩)) ∧ (w.alloc (opBlk 11 a b c s vl)).drew.cell? ⟨w.heap.size, 1, none⟩ = some (.int .i64 a) ∧ (w.alloc (opBlk 11 a b c s vl)).drew.cell? ⟨w.heap.size, 2, none⟩ = some (.int .i64 b) := ⟨c0, q1, q2⟩
  have c0' : (w.alloc (opBlk 11 a b c s vl)).cell? ⟨p, 0, none⟩ = some (.pointer (some ⟨pd, 0, none⟩)) := c0
  have hpz' : p < (w.alloc (opBlk 11 a b c s vl)).heap.size := hpz
  have HDET : Hid (∀ x c x' c', QTold D a b x c → QTold D a b x' c' → x = x' ∧ c = c') := fun _ _ _ _ h k => h.det k
  generalize QTold D a b = QT at *
  clear h hT hdk hd hx b0 k0 c0 hpz q1 q2 q3 q4 q5
  go_enter Tryz.func18, Tryz.ntmps18
  go_wp2_with fail
  go_region_held3 (fun w' => w'.cell? ⟨p, 0, none⟩ = some (.pointer (some ⟨pd, 0, none⟩)) ∧ w'.cell? ⟨w.heap.size, 1, none⟩ = some (.int .i64 a) ∧ w'.cell? ⟨w.heap.size, 2, none⟩ = some (.int .i64 b)) (first | with_reducible exact hS0 | with_reducible exact hS3 | go_keep) (first | (go_at_call 48; refine HF.out.mono ?_; rintro e w1 ⟨⟨x1, c1, rfl, hq1⟩, hbb1⟩; have k1 := HK0.out.trans (hbb1.mono HK0.out.size); have b1 := (hbb1.block _ hqz).trans HB0.out; have hS3 : w1.cell? ⟨p, 0, none⟩ = some (.pointer (some ⟨pd, 0, none⟩)) ∧ w1.cell? ⟨w.heap.size, 1, none⟩ = some (.int .i64 a) ∧ w1.cell? ⟨w.heap.size, 2, none⟩ = some (.int .i64 b) := ⟨(HT1.out w1 k1).1, (blk6 b1).2.1, (blk6 b1).2.2.1⟩))
  have HK1 := hid (below_drewn k1)
  have HB1 : Hid (w1.drew.heap[w.heap.size]? = some (opBlk 11 a b c s vl)) := b1
  obtain ⟨d0, d1, hpz1⟩ := HT1.out w1 k1
  obtain ⟨y0, y1, y2, y3, y4, y5⟩ := blk6 b1
  have hqz1 := lt_of_blk' b1
  have hS0' : w1.drew.cell? ⟨p, 1, none⟩ = some (.pointer (some ⟨pr, 0, none⟩)) ∧ w1.drew.cell? ⟨w.heap.size, 1, none⟩ = some (.int .i64 a) ∧ w1.drew.cell? ⟨w.heap.size, 2, none⟩ = some (.int .i64 b) := ⟨d1, y1, y2⟩
  have HF2 := hid (HR2.out _ HK1.out)
  clear hS0 hS3 k1 b1 hbb1 HF HB0 y1 y2 y3 y4 y5 d0 q0 c0' hpz' HR2 HK0 hqz
  go_wp2_with fail
  go_region_held3 (fun w' => w'.cell? ⟨p, 1, none⟩ = some (.pointer (some ⟨pr, 0, none⟩)) ∧ w'.cell? ⟨w.heap.size, 1, none⟩ = some (.int .i64 a) ∧ w'.cell? ⟨w.heap.size, 2, none⟩ = some (.int .i64 b)) (first | with_reducible exact hS0' | with_reducible exact hS4 | go_keep) (first | (go_at_call 49; refine HF2.out.mono ?_; rintro e w2 ⟨⟨x2, c2, rfl, hq2⟩, hbb2⟩; have k2 := HK1.out.trans (hbb2.mono HK1.out.size); have b2 := (hbb2.block _ hqz1).trans HB1.out; have hS4 : w2.cell? ⟨p, 1, none⟩ = some (.pointer (some ⟨pr, 0, none⟩)) ∧ w2.cell? ⟨w.heap.size, 1, none⟩ = some (.int .i64 a) ∧ w2.cell? ⟨w.heap.size, 2, none⟩ = some (.int .i64 b) := ⟨(HT1.out w2 k2).2.1, (blk6 b2).2.1, (blk6 b2).2.2.1⟩))
  have HFIN := hid (HPO.out w2 k2)
  clear k2 b2 hbb2 hS4 hS0' HF2 HK1 HB1
  obtain ⟨ex, ec⟩ := HDET.out _ _ _ _ hq1 hq2
  subst ex
  subst ec
  have hb1 : (x1 == x1) = true := by simp
  have hb2 : (c1 == c1) = true := by simp
  clear hq1 hq2 HDET
  go_wp2_with (go_at_call 11; refine (HNU.out _ _).mono ?_; rintro e w' ⟨rfl, hw⟩; obtain rfl := hw.symm)
  go_ret
  exact ⟨rfl, HFIN.out⟩

end Go.Proofs.YtklicjbpjigfdabGreat

/- DERIVED. The walk of the desk's Rank. -/
namespace Go.Proofs.YtklicjbpjigfdabGreat
open Go.RowKit
variable {F : Nat → Prop}

set_option maxHeartbeats 1000000 in
set_option maxRecDepth 100000 in
theorem deskRank (d : Nat) (D : Dk) (i : Nat) (q : Int) (w : World) (h : DeskAt F w d D) (hi : i < D.sks.length) (hok : (D.sks.getD i Hd.none).Ok) (hs : ∀ j, j < (D.sks.getD i Hd.none).sk.lv.length → Srt ((D.sks.getD i Hd.none).sk.lv.getD j Lvl.none).items) (hss : ssum (D.sks.getD i Hd.none).sk.lv ≤ 1152921504606846976) :
    Calls Tryz.prog 46 #[.pointer (some ⟨d, 0, none⟩), .int .i64 (i : Int), .int .i64 q] w fun e w' =>
      (e = if wsum (D.sks.getD i Hd.none).sk.lv = 0 then .returned (.tuple #[.agg #[.int .i64 0, .int .i64 0, .int .i64 0], .int .i64 8]) else .returned (.tuple #[.agg #[.int .i64 (rkLow q (D.sks.getD i Hd.none).sk.lv (D.sks.getD i Hd.none).sk.lo (D.sks.getD i Hd.none).sk.hi), .int .i64 (usum q (D.sks.getD i Hd.none).sk.lv : Int), .int .i64 (rkHigh q (D.sks.getD i Hd.none).sk.lv (D.sks.getD i Hd.none).sk.lo (D.sks.getD i Hd.none).sk.hi)], .int .i64 0])) ∧ Below w.heap.size w w' := by
  obtain ⟨vt, vk, rs, h⟩ := h
  have hdz := lt_of_blk' h.blk
  have hbA : Below w.heap.size w (w.alloc (.cells #[.int .i64 0, .int .i64 0, .int .i64 0] 103)) := (Below.refl w.heap.size w).alloc (Nat.le_refl _) _
  have hA := h.below hbA
  obtain ⟨g, c, rfl, hg, q0, q1, q2, q3, q4⟩ := hA.cells5 hi
  obtain ⟨_, _, c2, _⟩ := blk3 hA.blk
  have HH := hid (has_any d (i : Int) _ _ _ _ c2)
  rw [hasB_nat hi] at HH
  have hlv := h.lv i hi
  have HC := hid (fun (w' : World) (hb : Below w.heap.size w w') => count_any (D.sks.getD i Hd.none).sk.k _ _ (D.sks.getD i Hd.none).sk.lo (D.sks.getD i Hd.none).sk.hi _ _ w' (hlv.below hb) (by have := hok.len; omega) (by have := hok.cnt; omega))
  have HR := hid (fun (w' : World) (hb : Below w.heap.size w w') => skRank_any (D.sks.getD i Hd.none).sk.k _ _ (D.sks.getD i Hd.none).sk.lo (D.sks.getD i Hd.none).sk.hi q _ _ w' (hlv.below hb) hs (by have := hok.len; omega) (by have := hok.cnt; omega) hss)
  have hcnt := hok.cnt
  generalize (D.sks.getD i Hd.none).sk = sk at *
  generalize rs.getD i Ref.none = r at *
  generalize (D.sks.getD i Hd.none).sealed = sl at *
  have hwz : w.heap.size < (w.alloc (.cells #[.int .i64 0, .int .i64 0, .int .i64 0] 103)).heap.size := by simp
  generalize D.sks.length = n at *
  have HBA := hid hbA
  have HZ0 : Hid (wsum sk.lv = wsum sk.lv) := rfl
  generalize rkLow q sk.lv sk.lo sk.hi = rl at *
  generalize rkHigh q sk.lv sk.lo sk.hi = rh at *
  generalize usum q sk.lv = us at *
  generalize wsum sk.lv = ws at *
  clear hA h hok hlv hss hs hbA
  go_enter Tryz.func46, Tryz.ntmps46
  go_wp2_with (first | (go_at_call 59; refine HH.out.mono ?_; rintro e w' ⟨rfl, hw⟩; obtain rfl := hw.symm))
  have hbB : Below w.heap.size w ((w.alloc (.cells #[.int .i64 0, .int .i64 0, .int .i64 0] 103)).alloc (skBlk sk.k r.g sk.lv.length r.cap sk.lo sk.hi)) := HBA.out.alloc (by simp) _
  refine (HC.out _ hbB).mono ?_
  rintro e w1 ⟨rfl, hb1⟩
  have hk1 := below_new hb1 (by simp)
  have hkr := (hb1.block w.heap.size (by simp; omega)).trans ((Below.heap_alloc _ _ _ (by simp)).trans (heap_alloc_new w (.cells #[.int .i64 0, .int .i64 0, .int .i64 0] 103)))
  rw [show (w.alloc (.cells #[.int .i64 0, .int .i64 0, .int .i64 0] 103)).heap.size = w.heap.size + 1 by simp] at hk1
  have HB1 : Hid (Below w.heap.size w w1) := hbB.trans (hb1.mono hbB.size)
  have hsz1 : w.heap.size + 1 + 1 ≤ w1.heap.size := by have := hb1.size; simp at this; omega
  obtain ⟨e0, e1, e2, e3, ez⟩ := blk4 hk1
  obtain ⟨d0, d1, d2, dz⟩ := blk3 hkr
  have HKR := hid hkr
  clear hb1 hbB hk1 hkr HC
  by_cases h0 : ws = 0
  · subst h0
    go_wp2_with fail
    refine bodyPost_ret (v := .tuple #[.agg #[.int .i64 0, .int .i64 0, .int .i64 0], .int .i64 8]) (by simp [results, Tryz.results46, go_sem, d0, d1, d2]) rfl ⟨by rfl, below_set3 HB1.out (Nat.le_refl _) _ _ _⟩
  · have h0' : ((ws : Int) == 0) = false := by simpa using h0
    have HNE := hid h0
    go_wp2_with fail
    refine (HR.out _ HB1.out).mono ?_
    rintro e w2 ⟨rfl, hb2⟩
    have hkr := (hb2.block w.heap.size (by omega)).trans HKR.out
    have HB2 : Hid (Below w.heap.size w w2) := HB1.out.trans (hb2.mono HB1.out.size)
    clear e0 e1 e2 e3 ez d0 d1 d2 dz hb2
    obtain ⟨d0, d1, d2, dz⟩ := blk3 hkr
    clear hkr HR HKR
    go_wp2_with fail
    refine bodyPost_ret (v := .tuple #[.agg #[.int .i64 rl, .int .i64 (us : Int), .int .i64 rh], .int .i64 0]) (by simp [results, Tryz.results46, go_sem, d0, d1, d2]) rfl ⟨by rfl, below_set3 HB2.out (Nat.le_refl _) _ _ _⟩

end Go.Proofs.YtklicjbpjigfdabGreat
