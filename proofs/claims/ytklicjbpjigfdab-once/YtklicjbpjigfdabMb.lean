/- DERIVED. The walk of the desk's Merge. -/
import Derived.Test.YtklicjbpjigfdabAddW
import Derived.Test.YtklicjbpjigfdabMa
import Derived.Test.YtklicjbpjigfdabSpaceP
import Derived.Test.YtklicjbpjigfdabMu
import Derived.Test.YtklicjbpjigfdabNc
namespace Go.Proofs.Ytklicjbpjigfdab
open Go.RowKit
variable {F : Nat → Prop}

/-- The sketch behind a Merge that is let in, ahead of settling. -/
def mgL (a b : Hd) : List Lvl := mergeL a.sk.lv b.sk.lv
def mgK (a b : Hd) : Nat := mergeK a.sk.k b.sk.k
def mgLo (a b : Hd) : Int := mergeLo a.sk.lv b.sk.lv a.sk.lo b.sk.lo
def mgHi (a b : Hd) : Int := mergeHi a.sk.lv b.sk.lv a.sk.hi b.sk.hi

theorem addAns.back {N0 d i k : Nat} {lo hi : Int} {D : Dk} {e : Ending} {w wA w1 : World} {o : Option (List Lvl × Nat)} (h : addAns F N0 d i k lo hi D e wA w1 o) (hb : Below w.heap.size w wA) : addAns F N0 d i k lo hi D e w w1 o := by
  cases o with
  | none => exact ⟨h.1, hb.trans (h.2.mono hb.size)⟩
  | some p =>
    obtain ⟨L', u⟩ := p
    obtain ⟨rfl, F', a1, a2, a3⟩ := h
    exact ⟨rfl, F', a1, a2, (Fr.below hb).trans a3 (fun _ _ h => h)⟩
theorem addAns.form {N0 d i k : Nat} {lo hi : Int} {D : Dk} {e : Ending} {w w1 : World} {o : Option (List Lvl × Nat)} (h : addAns F N0 d i k lo hi D e w w1 o) : ∃ v : Int, e = .returned (.int .i64 v) ∧ (v = 0 ∨ v = 7) := by
  cases o with
  | none => exact ⟨7, h.1, .inr rfl⟩
  | some p => exact ⟨0, h.1, .inl rfl⟩

set_option maxHeartbeats 1000000 in
set_option maxRecDepth 100000 in
/-- What comes in is b, whose levels lie anywhere. -/
theorem mergeIn_any (N0 d i g2 cap2 : Nat) (df : Hd) (vs2 : List Value) (D : Dk) (w : World) (h : DeskAt F w d D) (hN : N0 ≤ w.heap.size) (hi : i < D.sks.length) (hL2 : LvAt (fun b => F b ∨ N0 ≤ b) w g2 cap2 vs2 df.sk.lv) (hok : (D.sks.getD i Hd.none).Ok) (hok2 : df.Ok) (hts : tsum (D.sks.getD i Hd.none).sk.lv + tsum df.sk.lv ≤ 549755813888) (htp : D.tape.length ≤ 1024) :
    Calls Try.prog 81 #[.pointer (some ⟨d, 0, none⟩), .int .i64 (i : Int), skVal df.sk.k g2 df.sk.lv.length cap2 df.sk.lo df.sk.hi] w fun e w' =>
      if wsum (D.sks.getD i Hd.none).sk.lv + wsum df.sk.lv ≤ 268435456 then addAns F N0 d i (mgK (D.sks.getD i Hd.none) df) (mgLo (D.sks.getD i Hd.none) df) (mgHi (D.sks.getD i Hd.none) df) D e w w' (settle (mgK (D.sks.getD i Hd.none) df) D.tape 0 (mgL (D.sks.getD i Hd.none) df))
      else e = .returned (.int .i64 6) ∧ Below w.heap.size w w' := by
  have hD := h
  have hbP : Below w.heap.size w (w.alloc (skBlk df.sk.k g2 df.sk.lv.length cap2 df.sk.lo df.sk.hi)) := (Below.refl w.heap.size w).alloc (Nat.le_refl _) _
  obtain ⟨vt, vk, rs, h⟩ := h.below hbP
  have hdz := lt_of_blk' h.blk
  obtain ⟨g, c, rfl, hg, q0, q1, q2, q3, q4⟩ := h.cells5 hi
  obtain ⟨_, _, c2, _⟩ := blk3 h.blk
  have HOK := hid hok
  have HOK2 := hid hok2
  have hLv := hid (h.lv i hi)
  have hLv2 := hid hL2
  have HD := hid hD
  have hcnt := hok.cnt
  have hcnt2 := hok2.cnt
  generalize hde : D.sks.getD i Hd.none = de at *
  have HDE := hid hde
  generalize rs.getD i Ref.none = r at *
  have hs1 : (0 : Int) ≤ (i : Int) := by omega
  have hs2 : (i : Int) < (D.sks.length : Int) := by omega
  clear h hok hok2 hD hde hL2 q4
  go_enter Try.func81, Try.ntmps81
  go_wp2_with fail
  have hbA : Below w.heap.size w ((w.alloc (skBlk df.sk.k g2 df.sk.lv.length cap2 df.sk.lo df.sk.hi)).alloc (skBlk de.sk.k r.g de.sk.lv.length r.cap de.sk.lo de.sk.hi)) := ((Below.refl w.heap.size w).alloc (Nat.le_refl _) _).alloc (by simp) _
  refine (count_any de.sk.k r.g r.cap de.sk.lo de.sk.hi r.vs de.sk.lv _ (hLv.out.below ((Below.refl _ _).alloc (Nat.le_refl _) _)) (by have := HOK.out.len; omega) (by omega)).mono ?_
  rintro e w1 ⟨rfl, hb1⟩
  have hk2 := below_new hb1 (by simp)
  have hk1 := (hb1.block w.heap.size (by simp; omega)).trans ((Below.heap_alloc _ _ _ (by simp)).trans (heap_alloc_new w (skBlk df.sk.k g2 df.sk.lv.length cap2 df.sk.lo df.sk.hi)))
  rw [show (w.alloc (skBlk df.sk.k g2 df.sk.lv.length cap2 df.sk.lo df.sk.hi)).heap.size = w.heap.size + 1 by simp] at hk2
  obtain ⟨e0, e1, e2, e3, ez⟩ := blk4 hk1
  obtain ⟨f0, f1, f2, f3, fz⟩ := blk4 hk2
  have hB1 : Below w.heap.size w w1 := hbA.trans (hb1.mono hbA.size)
  have HB1 := hid hB1
  have HK1 := hid hk1
  have HK2 := hid hk2
  have hLw1 : LvAt F w1 r.g r.cap r.vs de.sk.lv := (hLv.out.below ((Below.refl _ _).alloc (Nat.le_refl _) _)).below hb1
  have HLW1 := hid hLw1
  have hsz1 : w.heap.size + 1 + 1 ≤ w1.heap.size := by have := hb1.size; simp at this; omega
  clear hb1 hbA hk1 hk2 hB1 hbP hLw1
  go_wp2_with fail
  refine (count_any df.sk.k g2 cap2 df.sk.lo df.sk.hi vs2 df.sk.lv _ (hLv2.out.below HB1.out) (by have := HOK2.out.len; omega) (by omega)).mono ?_
  rintro e w2 ⟨rfl, hb2⟩
  have hk1 := (hb2.block w.heap.size (by omega)).trans HK1.out
  have hk2 := (hb2.block (w.heap.size + 1) (by omega)).trans HK2.out
  clear e0 e1 e2 e3 ez f0 f1 f2 f3 fz
  obtain ⟨e0, e1, e2, e3, ez⟩ := blk4 hk1
  obtain ⟨f0, f1, f2, f3, fz⟩ := blk4 hk2
  have HB2 : Hid (Below w.heap.size w w2) := HB1.out.trans (hb2.mono HB1.out.size)
  have HLW2 : Hid (LvAt F w2 r.g r.cap r.vs de.sk.lv) := HLW1.out.below hb2
  clear hb2 hk1 hk2 HK1 HK2
  by_cases hfull : wsum de.sk.lv + wsum df.sk.lv ≤ 268435456
  · go_wp2_with fail
    refine (merged_any (F := fun b => F b ∨ N0 ≤ b) de.sk.k r.g r.cap df.sk.k g2 cap2 de.sk.lo de.sk.hi df.sk.lo df.sk.hi r.vs vs2 de.sk.lv df.sk.lv w2 (HLW2.out.mono (fun b hb _ => .inl hb)) (hLv2.out.below HB2.out) HOK.out.len HOK2.out.len (by omega) (by omega) hts (fun b hb => .inr (by have := HB2.out.size; omega))).mono ?_
    rintro e w3 ⟨g3, cap3, vs3, rfl, hg3, hL3, hb3⟩
    have HB3 : Hid (Below w.heap.size w w3) := HB2.out.trans (hb3.mono HB2.out.size)
    have HL3 := hid hL3
    have hl9 : (mergeL de.sk.lv df.sk.lv).length ≤ 29 := by rw [mergeL_length]; have := HOK.out.len; have := HOK2.out.len; omega
    have hw9 : wsum (mergeL de.sk.lv df.sk.lv) ≤ 268435456 := by rw [mergeL_wsum]; exact hfull
    have ht9 : Hid (∀ j, ((mergeL de.sk.lv df.sk.lv).getD j Lvl.none).times ≤ 549755813888) := fun j => by
      have := tsum_at (mergeL de.sk.lv df.sk.lv) j
      rw [mergeL_tsum] at this; omega
    have hk9 : mergeK de.sk.k df.sk.k ≤ 64 := by unfold mergeK; have := HOK.out.k2; have := HOK2.out.k2; split <;> omega
    have HLE : Hid (mgL de df = mergeL de.sk.lv df.sk.lv) := rfl
    have HKE : Hid (mgK de df = mergeK de.sk.k df.sk.k) := rfl
    have HLOE : Hid (mgLo de df = mergeLo de.sk.lv df.sk.lv de.sk.lo df.sk.lo) := rfl
    have HHIE : Hid (mgHi de df = mergeHi de.sk.lv df.sk.lv de.sk.hi df.sk.hi) := rfl
    generalize mergeL de.sk.lv df.sk.lv = L9 at *
    generalize mergeLo de.sk.lv df.sk.lv de.sk.lo df.sk.lo = lo9 at *
    generalize mergeHi de.sk.lv df.sk.lv de.sk.hi df.sk.hi = hi9 at *
    generalize mergeK de.sk.k df.sk.k = k9 at *
    clear hb3 hL3 e0 e1 e2 e3 ez f0 f1 f2 f3 fz
    go_wp2_with fail
    have hbC : Below w3.heap.size w3 (w3.alloc (skBlk k9 g3 L9.length cap3 lo9 hi9)) := (Below.refl _ _).alloc (Nat.le_refl _) _
    refine (settle_any (F := F) N0 d i k9 g3 cap3 lo9 hi9 D vs3 L9 _ ((HD.out.below HB3.out).below hbC) hi (by have := HB3.out.size; simp; omega) (HL3.out.below hbC) hk9 hl9 hw9 ht9.out htp).mono ?_
    intro e w4 hans
    have hbw : Below w.heap.size w (w3.alloc (skBlk k9 g3 L9.length cap3 lo9 hi9)) := HB3.out.trans (hbC.mono HB3.out.size)
    have HBW := hid hbw
    clear hbw hbC
    cases hset : settle k9 D.tape 0 L9 with
    | none =>
      rw [hset] at hans
      obtain ⟨rfl, hb4⟩ := hans
      have HSET := hid hset
      have HB4 := hid hb4
      clear hset hb4
      go_wp2_with fail
      go_ret
      rw [HLE.out, HLOE.out, HHIE.out, HKE.out, HSET.out]
      exact ⟨rfl, HBW.out.trans (HB4.out.mono HBW.out.size)⟩
    | some p =>
      obtain ⟨L', u⟩ := p
      rw [hset] at hans
      obtain ⟨rfl, F', a1, a2, a3⟩ := hans
      have HSET := hid hset
      have A1 := hid a1
      have A2 := hid a2
      have A3 := hid a3
      clear hset a1 a2 a3
      go_wp2_with fail
      go_ret
      rw [HLE.out, HLOE.out, HHIE.out, HKE.out, HSET.out]
      exact ⟨rfl, F', A1.out, A2.out, (Fr.below HBW.out).trans A3.out (fun _ _ h => h)⟩
  · go_wp2_with fail
    go_ret
    exact ⟨rfl, HB2.out⟩

set_option maxHeartbeats 1000000 in
set_option maxRecDepth 100000 in
theorem dmerge_any (d i j : Nat) (D : Dk) (w : World) (h : DeskAt F w d D) (hi : i < D.sks.length) (hj : j < D.sks.length) (hok : (D.sks.getD i Hd.none).Ok) (hok2 : (D.sks.getD j Hd.none).Ok) (hun : (D.sks.getD i Hd.none).sealed = false) (hts : tsum (D.sks.getD i Hd.none).sk.lv + tsum (D.sks.getD j Hd.none).sk.lv ≤ 549755813888) (htp : D.tape.length ≤ 1024) :
    Calls Try.prog 57 #[.pointer (some ⟨d, 0, none⟩), .int .i64 (i : Int), .int .i64 (j : Int)] w fun e w' =>
      if wsum (D.sks.getD i Hd.none).sk.lv + wsum (D.sks.getD j Hd.none).sk.lv ≤ 268435456 then addAns F w.heap.size d i (mgK (D.sks.getD i Hd.none) (D.sks.getD j Hd.none)) (mgLo (D.sks.getD i Hd.none) (D.sks.getD j Hd.none)) (mgHi (D.sks.getD i Hd.none) (D.sks.getD j Hd.none)) D e w w' (settle (mgK (D.sks.getD i Hd.none) (D.sks.getD j Hd.none)) D.tape 0 (mgL (D.sks.getD i Hd.none) (D.sks.getD j Hd.none)))
      else e = .returned (.int .i64 6) ∧ Below w.heap.size w w' := by
  have hD := h
  obtain ⟨vt, vk, rs, h⟩ := h
  have hdz := lt_of_blk' h.blk
  obtain ⟨g, c, rfl, hg, q0, q1, q2, q3, q4⟩ := h.cells5 hi
  obtain ⟨g', c', ek, hg', p0, p1, p2, p3, p4⟩ := h.cells5 hj
  cases ek
  obtain ⟨_, _, c2, _⟩ := blk3 h.blk
  have HH := hid (has_any d (i : Int) _ _ _ _ c2)
  have HH2 := hid (has_any d (j : Int) _ _ _ _ c2)
  rw [hasB_nat hi] at HH
  rw [hasB_nat hj] at HH2
  rw [hun] at q4
  have hal : Below w.heap.size w (w.alloc (skBlk (D.sks.getD j Hd.none).sk.k (rs.getD j Ref.none).g (D.sks.getD j Hd.none).sk.lv.length (rs.getD j Ref.none).cap (D.sks.getD j Hd.none).sk.lo (D.sks.getD j Hd.none).sk.hi)) := (Below.refl w.heap.size w).alloc (Nat.le_refl _) _
  have HM := hid (mergeIn_any w.heap.size d i _ _ (D.sks.getD j Hd.none) _ D _ (hD.below hal) hal.size hi (((h.lv j hj).below hal).mono (fun b hb _ => .inl hb)) hok hok2 hts htp)
  have HAL := hid hal
  generalize D.sks.getD j Hd.none = df at *
  generalize D.sks.getD i Hd.none = de at *
  generalize rs.getD j Ref.none = r2 at *
  have hs1 : (0 : Int) ≤ (i : Int) := by omega
  have hs2 : (i : Int) < (D.sks.length : Int) := by omega
  have hs3 : (0 : Int) ≤ (j : Int) := by omega
  have hs4 : (j : Int) < (D.sks.length : Int) := by omega
  clear h hok hok2 hD hun hal
  go_enter Try.func57, Try.ntmps57
  go_wp2_with fail
  refine HH.out.mono ?_
  rintro e w' ⟨rfl, hw⟩
  obtain rfl := hw.symm
  clear HH hw
  go_wp2_with fail
  refine HH2.out.mono ?_
  rintro e w' ⟨rfl, hw⟩
  obtain rfl := hw.symm
  clear HH2 hw
  go_wp2_with fail
  refine HM.out.mono ?_
  intro e w1 hans
  have hform : ∃ v : Int, e = .returned (.int .i64 v) := by
    split at hans
    · obtain ⟨v, h, _⟩ := hans.form; exact ⟨v, h⟩
    · exact ⟨6, hans.1⟩
  obtain ⟨v, rfl⟩ := hform
  have HANS := hid hans
  clear hans
  by_cases hf : wsum de.sk.lv + wsum df.sk.lv ≤ 268435456
  · rw [if_pos hf] at HANS
    go_wp2_with fail
    go_ret
    exact HANS.out.back HAL.out
  · rw [if_neg hf] at HANS
    go_wp2_with fail
    go_ret
    exact ⟨HANS.out.1, HAL.out.trans (HANS.out.2.mono HAL.out.size)⟩

end Go.Proofs.Ytklicjbpjigfdab

/- DERIVED. Plain mathematics of ranks: what the items weigh that are at most q, and how far that is off. -/
namespace Go.Proofs.Ytklicjbpjigfdab
open Go.RowKit

/-- How many are at most q. -/
def cnt (q : Int) (l : List Int) : Nat := l.countP (fun a => decide (a ≤ q))
theorem cnt_nil (q : Int) : cnt q [] = 0 := rfl
theorem cnt_cons (q x : Int) (l : List Int) : cnt q (x :: l) = cnt q l + (if x ≤ q then 1 else 0) := by
  unfold cnt; rw [List.countP_cons]; simp
theorem cnt_append (q : Int) (a b : List Int) : cnt q (a ++ b) = cnt q a + cnt q b := by unfold cnt; rw [List.countP_append]
theorem cnt_le (q : Int) (l : List Int) : cnt q l ≤ l.length := List.countP_le_length
theorem cnt_jn (q : Int) : ∀ (B A : List Int), cnt q (jn A B) = cnt q A + cnt q B := by
  intro B
  induction B with
  | nil => intro A; rw [jn_nil, cnt_nil]; rfl
  | cons x B ih =>
    intro A
    have h := congrArg (cnt q) (List.takeWhile_append_dropWhile (p := fun a => decide (a ≤ x)) (l := A))
    rw [cnt_append] at h
    simp only [jn, cnt_append, cnt_cons, ih]
    omega
theorem cnt_zero {q : Int} {l : List Int} (h : ∀ x ∈ l, q < x) : cnt q l = 0 := by
  unfold cnt
  rw [List.countP_eq_zero]
  intro x hx
  have := h x hx
  simp; omega
theorem cnt_all {q : Int} {l : List Int} (h : ∀ x ∈ l, x ≤ q) : cnt q l = l.length := by
  unfold cnt
  rw [List.countP_eq_length]
  intro x hx
  have := h x hx
  simpa using this
/-- Of a rising list every second one. -/
theorem cnt_evens (q : Int) : ∀ l : List Int, Srt l → cnt q (evens l) = (cnt q l + 1) / 2
  | [], _ => by simp [evens, cnt_nil]
  | [x], _ => by simp only [evens, cnt_cons, cnt_nil]; split <;> omega
  | x :: y :: r, h => by
    have hr : Srt r := List.Pairwise.of_cons (List.Pairwise.of_cons h)
    have ih := cnt_evens q r hr
    have hxy : x ≤ y := List.rel_of_pairwise_cons h (by simp)
    simp only [evens, cnt_cons, ih]
    by_cases hy : y ≤ q
    · rw [if_pos hy, if_pos (by omega)]; omega
    · have h0 : cnt q r = 0 := cnt_zero (fun z hz => by have := List.rel_of_pairwise_cons (List.Pairwise.of_cons h) hz; omega)
      rw [if_neg hy, h0]; split <;> omega
theorem cnt_odds (q : Int) : ∀ l : List Int, Srt l → cnt q (evens (l.drop 1)) = cnt q l / 2
  | [], _ => by simp [evens, cnt_nil]
  | x :: r, h => by
    have hr : Srt r := List.Pairwise.of_cons h
    rw [List.drop_one, List.tail_cons, cnt_evens q r hr, cnt_cons]
    by_cases hx : x ≤ q
    · rw [if_pos hx]
    · have h0 : cnt q r = 0 := cnt_zero (fun z hz => by have := List.rel_of_pairwise_cons h hz; omega)
      rw [if_neg hx, h0]
/-- What goes up, by the coin. -/
theorem cnt_up (q : Int) (its : List Int) (h : Srt its) (c : Bool) : cnt q (upOf its c) = if c then cnt q (its.drop (its.length % 2)) / 2 else (cnt q (its.drop (its.length % 2)) + 1) / 2 := by
  have hd : Srt (its.drop (its.length % 2)) := h.sublist (List.drop_sublist _ _)
  unfold upOf
  cases c
  · simp only [Bool.false_eq_true, if_false, Nat.add_zero]
    exact cnt_evens q _ hd
  · simp only [if_true]
    rw [← List.drop_drop]
    exact cnt_odds q _ hd
theorem cnt_split (q : Int) (its : List Int) (n : Nat) : cnt q (its.take n) + cnt q (its.drop n) = cnt q its := by
  rw [← cnt_append, List.take_append_drop]

/-- What the items weigh that are at most q. -/
def usum (q : Int) : List Lvl → Nat
  | [] => 0
  | l :: L => cnt q l.items + 2 * usum q L
theorem usum_le (q : Int) : ∀ L, usum q L ≤ wsum L
  | [] => Nat.le_refl _
  | l :: L => by have := usum_le q L; have := cnt_le q l.items; simp only [usum, wsum]; omega
theorem usum_snoc (q : Int) (L : List Lvl) : usum q (L ++ [Lvl.none]) = usum q L := by
  induction L with
  | nil => rfl
  | cons l L ih => simp only [List.cons_append, usum, ih]
theorem usum_at1 (q : Int) (L : List Lvl) (h : Nat) : usum q (at1 L h) = usum q L := by
  unfold at1; split
  · exact usum_snoc q L
  · rfl
theorem usum_setItems {q : Int} {L : List Lvl} {h : Nat} {X : List Int} (hh : h < L.length) : usum q (setItems L h X) + 2 ^ h * cnt q (L.getD h Lvl.none).items = usum q L + 2 ^ h * cnt q X := by
  induction L generalizing h with
  | nil => simp at hh
  | cons l L ih =>
    cases h with
    | zero => simp [setItems, usum]; omega
    | succ h =>
      have := ih (h := h) (by simpa using hh)
      simp only [setItems, List.getD_cons_succ, List.set_cons_succ, usum] at this ⊢
      rw [Nat.pow_succ, Nat.mul_right_comm, Nat.mul_right_comm (2 ^ h) 2]
      omega
theorem usum_bit {q x : Int} {w h : Nat} {L : List Lvl} (hh : h < L.length) : usum q (bit1 x w L h) = usum q L + 2 ^ h * (if x ≤ q then w % 2 else 0) := by
  unfold bit1
  split
  · rename_i e
    have := usum_setItems (q := q) (X := jn (L.getD h Lvl.none).items [x]) hh
    rw [cnt_jn, Nat.mul_add, cnt_cons, cnt_nil, e] at *
    simp only [Nat.zero_add] at this
    omega
  · rename_i e
    have : w % 2 = 0 := by omega
    rw [this]; simp
theorem usum_with {q x : Int} : ∀ {f w h : Nat} {L : List Lvl}, w < 2 ^ f → h ≤ L.length → usum q (withFrom x f w h L) = usum q L + 2 ^ h * (if x ≤ q then w else 0) := by
  intro f
  induction f with
  | zero => intro w h L hw hh; simp at hw; subst hw; simp [withFrom]
  | succ f ih =>
    intro w h L hw hh
    by_cases h0 : w = 0
    · subst h0; rw [withFrom_zero]; simp
    · have hl : h < (at1 L h).length := by rw [at1_length]; split <;> omega
      rw [withFrom_step (by omega), ih (by rw [Nat.pow_succ] at hw; omega) (by rw [bit1_length]; omega), usum_bit hl, usum_at1, Nat.pow_succ, Nat.add_assoc, Nat.mul_assoc, ← Nat.mul_add]
      congr 2
      split <;> omega
theorem usum_merge (q : Int) : ∀ (T L : List Lvl), usum q (mergeL L T) = usum q L + usum q T := by
  intro T
  induction T with
  | nil => intro L; rw [mergeL_nil]; simp [usum]
  | cons t T ih =>
    intro L
    cases L with
    | nil => simp only [mergeL, usum, cnt_jn, ih, cnt_nil]; omega
    | cons l L => simp only [mergeL, usum, cnt_jn, ih]; omega

theorem esum_merge : ∀ (T L : List Lvl), esum (mergeL L T) = esum L + esum T := by
  intro T
  induction T with
  | nil => intro L; rw [mergeL_nil]; simp [esum]
  | cons t T ih =>
    intro L
    cases L with
    | nil => simp only [mergeL, esum, ih]; omega
    | cons l L => simp only [mergeL, esum, ih]; omega
theorem ssum_merge : ∀ (T L : List Lvl), ssum (mergeL L T) = ssum L + ssum T := by
  intro T
  induction T with
  | nil => intro L; rw [mergeL_nil]; simp [ssum]
  | cons t T ih =>
    intro L
    cases L with
    | nil => simp only [mergeL, ssum, ih]; omega
    | cons l L => simp only [mergeL, ssum, ih]; omega
theorem esum_snoc (L : List Lvl) : esum (L ++ [Lvl.none]) = esum L := by
  induction L with
  | nil => rfl
  | cons l L ih => simp only [List.cons_append, esum, ih]
theorem esum_setItems (L : List Lvl) (h : Nat) (X : List Int) : esum (setItems L h X) = esum L := by
  induction L generalizing h with
  | nil => simp [setItems]
  | cons l L ih =>
    cases h with
    | zero => simp [setItems, esum]
    | succ h =>
      have := ih h
      simp only [setItems, List.getD_cons_succ, List.set_cons_succ, esum] at this ⊢
      omega
theorem esum_with {x : Int} : ∀ {f w h : Nat} {L : List Lvl}, esum (withFrom x f w h L) = esum L := by
  intro f
  induction f with
  | zero => intro w h L; rfl
  | succ f ih =>
    intro w h L
    by_cases h0 : w = 0
    · subst h0; rw [withFrom_zero]
    · rw [withFrom_step (by omega), ih]
      have e1 : esum (at1 L h) = esum L := by
        unfold at1; split
        · exact esum_snoc L
        · rfl
      unfold bit1; split
      · rw [esum_setItems, e1]
      · exact e1

/-- A thinning: the error grows by the weight of one item; the ranks move by that at most. -/
theorem esum_thin {c : Bool} : ∀ {L : List Lvl} {h : Nat}, h < L.length → esum (thinL L h c) = esum L + 2 ^ h
  | [], _, hh => by simp at hh
  | [l], 0, _ => by rw [thinL_one]; simp [esum]
  | l :: m :: L, 0, _ => by rw [thinL_two]; simp only [esum]; omega
  | l :: L, j + 1, hh => by
    have := esum_thin (c := c) (L := L) (h := j) (by simpa using hh)
    rw [thinL_succ]
    simp only [esum, this, Nat.pow_succ]; omega
theorem usum_thin {q : Int} {X : List Int} {c : Bool} : ∀ {L : List Lvl} {h : Nat}, h < L.length → LvOk X L → usum q (thinL L h c) ≤ usum q L + 2 ^ h ∧ usum q L ≤ usum q (thinL L h c) + 2 ^ h
  | [], _, hh, _ => by simp at hh
  | [l], 0, _, hL => by
    have h1 := cnt_up q l.items (hL l (by simp)).1 c
    have h2 := cnt_split q l.items (l.items.length % 2)
    rw [thinL_one]
    simp only [usum, cnt_jn, cnt_nil, Nat.zero_add, Nat.pow_zero, h1]
    split <;> omega
  | l :: m :: L, 0, _, hL => by
    have h1 := cnt_up q l.items (hL l (by simp)).1 c
    have h2 := cnt_split q l.items (l.items.length % 2)
    rw [thinL_two]
    simp only [usum, cnt_jn, Nat.pow_zero, h1]
    split <;> omega
  | l :: L, j + 1, hh, hL => by
    have := usum_thin (q := q) (c := c) (L := L) (h := j) (by simpa using hh) (fun l hl => hL l (by simp [hl]))
    rw [thinL_succ]
    simp only [usum, Nat.pow_succ]; omega
theorem usum_settle {q : Int} {X : List Int} {k : Nat} : ∀ {cs : List Bool} {u : Nat} {L L' : List Lvl} {u' : Nat}, LvOk X L → settle k cs u L = some (L', u') → usum q L' + esum L ≤ usum q L + esum L' ∧ usum q L + esum L ≤ usum q L' + esum L' := by
  intro cs
  induction cs with
  | nil => intro u L L' u' _ hs; simp only [settle] at hs; split at hs <;> simp at hs; rw [← hs.1]; exact ⟨Nat.le_refl _, Nat.le_refl _⟩
  | cons c cs ih =>
    intro u L L' u' hL hs
    simp only [settle] at hs
    split at hs
    · simp at hs; rw [← hs.1]; exact ⟨Nat.le_refl _, Nat.le_refl _⟩
    · rename_i r hr
      obtain ⟨h1, _, _⟩ := toThinL_some hr
      have a := ih (hL.thin r c) hs
      have e := esum_thin (c := c) h1
      have u1 := usum_thin (q := q) (c := c) h1 hL
      omega

/-- The items' ranks are those of r, up to the error. -/
def Near (q : Int) (L : List Lvl) (r : Nat) : Prop := usum q L ≤ r + esum L ∧ r ≤ usum q L + esum L
theorem Near.settle {q : Int} {X : List Int} {k : Nat} {cs : List Bool} {u : Nat} {L L' : List Lvl} {u' r : Nat} (h : Near q L r) (hL : LvOk X L) (hs : settle k cs u L = some (L', u')) : Near q L' r := by
  have a := usum_settle (q := q) hL hs
  unfold Near at *
  omega

end Go.Proofs.Ytklicjbpjigfdab

/- DERIVED. Plain mathematics of all of a side coming into another (or into itself). -/
namespace Go.Proofs.Ytklicjbpjigfdab

/-- The side behind the first r of the numbers. -/
def putN (s : Sd) (xs : List Int) (ws : List Nat) : Nat → Sd
  | 0 => s
  | r + 1 => (putN s xs ws r).put (xs.getD r 0) (ws.getD r 0)
/-- All of side t comes into side s. -/
def Sd.all (s t : Sd) : Sd := { putN s t.xs t.ws t.xs.length with k := if t.k < s.k then t.k else s.k, ones := s.ones && t.ones }

theorem putXs_mem {s : Sd} {x : Int} (h : x ∈ s.xs) : putXs s x = s.xs := by
  unfold putXs
  cases hf : findAt x 0 s.xs with
  | none => exact absurd h (findAt_none.1 hf)
  | some i => rfl
theorem putXs_len (s : Sd) (x : Int) : (putXs s x).length ≤ s.xs.length + 1 := by
  unfold putXs; split <;> simp
theorem putN_n (s : Sd) (xs : List Int) (ws : List Nat) : ∀ r, r ≤ ws.length → (putN s xs ws r).n = s.n + wAll (ws.take r) := by
  intro r
  induction r with
  | zero => intro _; simp [putN, wAll]
  | succ r ih =>
    intro hr
    have := ih (by omega)
    show (putN s xs ws r).n + ws.getD r 0 = _
    rw [this, List.take_succ_eq_append_getElem (by omega), wAll_snoc, Nat.add_assoc]
    congr 2
    simp [List.getD, show r < ws.length by omega]
theorem putN_len (s : Sd) (xs : List Int) (ws : List Nat) : ∀ r, (putN s xs ws r).xs.length ≤ s.xs.length + r := by
  intro r
  induction r with
  | zero => exact Nat.le_refl _
  | succ r ih =>
    have := putXs_len (putN s xs ws r) (xs.getD r 0)
    show (putXs (putN s xs ws r) (xs.getD r 0)).length ≤ _
    omega
theorem putN_rest (s : Sd) (xs : List Int) (ws : List Nat) : ∀ r, (putN s xs ws r).k = s.k ∧ (putN s xs ws r).ones = s.ones ∧ (putN s xs ws r).gone = s.gone := by
  intro r
  induction r with
  | zero => exact ⟨rfl, rfl, rfl⟩
  | succ r ih => exact ih
theorem getD_mem {xs : List Int} {r : Nat} (h : r < xs.length) : xs.getD r 0 ∈ xs := by
  have : xs.getD r 0 = xs[r] := by simp [List.getD, h]
  rw [this]; exact List.getElem_mem h
/-- Into itself: no number is new. -/
theorem putN_self (s : Sd) (ws : List Nat) : ∀ r, r ≤ s.xs.length → (putN s s.xs ws r).xs = s.xs := by
  intro r
  induction r with
  | zero => intro _; rfl
  | succ r ih =>
    intro hr
    have h := ih (by omega)
    show putXs (putN s s.xs ws r) (s.xs.getD r 0) = s.xs
    rw [putXs_mem (by rw [h]; exact getD_mem (by omega)), h]

theorem wAll_take_le (ws : List Nat) (r : Nat) : wAll (ws.take r) ≤ wAll ws := by
  induction ws generalizing r with
  | nil => simp
  | cons w ws ih =>
    cases r with
    | zero => simp [wAll]
    | succ r => have := ih r; simp only [List.take_succ_cons, wAll]; omega
theorem wFilter_snoc (p : Int → Bool) : ∀ (xs : List Int) (ws : List Nat) (x : Int) (w : Nat), xs.length = ws.length → wFilter p (xs ++ [x]) (ws ++ [w]) = wFilter p xs ws + (if p x then w else 0) := by
  intro xs
  induction xs with
  | nil => intro ws x w h; cases ws with | nil => simp [wFilter] | cons => simp at h
  | cons y xs ih =>
    intro ws x w h
    cases ws with
    | nil => simp at h
    | cons v ws => simp only [List.cons_append, wFilter, ih ws x w (by simpa using h)]; omega
theorem wFilter_set (p : Int → Bool) : ∀ (xs : List Int) (ws : List Nat) (i v : Nat), i < xs.length → i < ws.length → wFilter p xs (ws.set i (ws.getD i 0 + v)) = wFilter p xs ws + (if p (xs.getD i 0) then v else 0) := by
  intro xs
  induction xs with
  | nil => intro ws i v h; simp at h
  | cons y xs ih =>
    intro ws i v h h2
    cases ws with
    | nil => simp at h2
    | cons w ws =>
      cases i with
      | zero => simp only [List.set_cons_zero, List.getD_cons_zero, wFilter]; split <;> omega
      | succ i => simp only [List.set_cons_succ, List.getD_cons_succ, wFilter, ih ws i v (by simpa using h) (by simpa using h2)]; omega
theorem wFilter_put (p : Int → Bool) {s : Sd} {x : Int} {wt : Nat} (hl : s.xs.length = s.ws.length) : wFilter p (putXs s x) (putWs s x wt) = wFilter p s.xs s.ws + (if p x then wt else 0) := by
  unfold putXs putWs
  cases hf : findAt x 0 s.xs with
  | none => exact wFilter_snoc p s.xs s.ws x wt hl
  | some i =>
    obtain ⟨_, h2, h3⟩ := findAt_some hf
    simp at h2 h3
    show wFilter p s.xs (s.ws.set i (s.ws.getD i 0 + wt)) = _
    rw [wFilter_set p s.xs s.ws i wt h2 (by omega)]
    congr 2
    rw [show s.xs.getD i 0 = x by simpa [List.getD] using h3]

end Go.Proofs.Ytklicjbpjigfdab

/- DERIVED. What holds of sketches and of what came in goes on holding when a sketch comes into another. -/
namespace Go.Proofs.Ytklicjbpjigfdab
open Go.RowKit

/-- What the numbers of t make of side s. -/
structure PutN (s : Sd) (xs : List Int) (ws : List Nat) (r : Nat) (u : Sd) : Prop where
  len : u.xs.length = u.ws.length
  sum : wAll u.ws = wAll s.ws + wAll (ws.take r)
  old : ∀ y ∈ s.xs, y ∈ u.xs
  new : ∀ i, i < r → xs.getD i 0 ∈ u.xs
  mem : ∀ y ∈ u.xs, y ∈ s.xs ∨ y ∈ xs
  pos : ∀ v ∈ u.ws, 1 ≤ v
  flt : ∀ p : Int → Bool, wFilter p u.xs u.ws = wFilter p s.xs s.ws + wFilter p (xs.take r) (ws.take r)

theorem take_getD_int {xs : List Int} {r : Nat} (h : r < xs.length) : xs.take (r + 1) = xs.take r ++ [xs.getD r 0] := by
  rw [List.take_succ_eq_append_getElem h]; simp [List.getD, h]
theorem take_getD_nat {xs : List Nat} {r : Nat} (h : r < xs.length) : xs.take (r + 1) = xs.take r ++ [xs.getD r 0] := by
  rw [List.take_succ_eq_append_getElem h]; simp [List.getD, h]

theorem putN_facts {s : Sd} {xs : List Int} {ws : List Nat} (hl : s.xs.length = s.ws.length) (hp : ∀ v ∈ s.ws, 1 ≤ v) (hx : xs.length = ws.length) (hw : ∀ v ∈ ws, 1 ≤ v) : ∀ r, r ≤ xs.length → PutN s xs ws r (putN s xs ws r) := by
  intro r
  induction r with
  | zero => intro _; exact ⟨hl, by simp [putN, wAll], fun y hy => hy, fun i hi => by omega, fun y hy => .inl hy, hp, fun p => by simp [putN, wFilter]⟩
  | succ r ih =>
    intro hr
    obtain ⟨a1, a2, a3, a4, a5, a6, a7⟩ := ih (by omega)
    obtain ⟨p1, p2, p3, p4, p5⟩ := put_facts (x := xs.getD r 0) (wt := ws.getD r 0) a1
    have hwr : ws.getD r 0 ∈ ws := by
      have : ws.getD r 0 = ws[r]'(by omega) := by simp [List.getD, show r < ws.length by omega]
      rw [this]; exact List.getElem_mem _
    refine ⟨p1, ?_, fun y hy => p4 y (a3 y hy), fun i hi => ?_, fun y hy => ?_, put_pos (hw _ hwr) a6, fun p => ?_⟩
    · show wAll (putWs (putN s xs ws r) (xs.getD r 0) (ws.getD r 0)) = _
      rw [p2, a2, take_getD_nat (by omega), wAll_snoc]; omega
    · show xs.getD i 0 ∈ putXs (putN s xs ws r) (xs.getD r 0)
      by_cases e : i = r
      · subst e; exact p3
      · exact p4 _ (a4 i (by omega))
    · rcases p5 y hy with h | rfl
      · exact a5 y h
      · exact .inr (getD_mem (by omega))
    · show wFilter p (putXs (putN s xs ws r) (xs.getD r 0)) (putWs (putN s xs ws r) (xs.getD r 0) (ws.getD r 0)) = _
      rw [wFilter_put p a1, a7, take_getD_int (by omega), take_getD_nat (by omega), wFilter_snoc p _ _ _ _ (by simp [hx])]; omega

theorem capOf_mono {k k' d : Nat} (h : k' ≤ k) : capOf k' d ≤ capOf k d := by
  apply Nat.le_of_not_lt
  intro hlt
  have h1 := capFrom_lo (capOf_ge k d) (show capOf k d < capFrom k' (3 ^ d) (2 ^ d) k' 2 from hlt)
  have h2 := capFrom_end (k := k) (t3 := 3 ^ d) (t2 := 2 ^ d) (f := k) (c := 2) (by omega)
  change ¬ (capOf k d < k ∧ capOf k d * 3 ^ d < k * 2 ^ d) at h2
  apply h2
  exact ⟨by omega, Nat.lt_of_lt_of_le h1.2 (Nat.mul_le_mul_right _ h)⟩
theorem capSum_monoK {k k' : Nat} (h : k' ≤ k) : ∀ n, capSum k' n ≤ capSum k n
  | 0 => Nat.le_refl _
  | n + 1 => by have := capSum_monoK h n; have := capOf_mono (d := n) h; simp only [capSum]; omega
theorem capSum_230 : capSum 64 29 = 230 := by decide +kernel

theorem Roomy.mono {k k' : Nat} (h : k' ≤ k) : ∀ {L : List Lvl}, Roomy k L → Roomy k' L
  | [], _ => trivial
  | _ :: _, hr => ⟨Nat.le_trans (Nat.mul_le_mul_left _ (capOf_mono h)) hr.1, hr.2.mono h⟩
theorem Roomy.merge {k : Nat} : ∀ {T L : List Lvl}, Roomy k L → Roomy k T → Roomy k (mergeL L T)
  | [], L, h, _ => by rw [mergeL_nil]; exact h
  | t :: T, [], h, hT => by
    refine ⟨?_, Roomy.merge (T := T) (L := []) trivial hT.2⟩
    rw [mergeL_length, mergeL_wsum]
    have := hT.1
    simp [wsum]
    exact this
  | t :: T, l :: L, h, hT => by
    refine ⟨?_, Roomy.merge h.2 hT.2⟩
    rw [mergeL_length, mergeL_wsum]
    have h1 := h.1
    have h2 := hT.1
    have c1 : capOf k (max L.length T.length) ≤ capOf k L.length := capOf_anti (Nat.le_max_left _ _)
    have c2 : capOf k (max L.length T.length) ≤ capOf k T.length := capOf_anti (Nat.le_max_right _ _)
    have m1 := Nat.mul_le_mul_left l.times c1
    have m2 := Nat.mul_le_mul_left t.times c2
    show (l.times + t.times) * _ ≤ _
    rw [Nat.add_mul]
    omega
theorem Tall.merge {L T : List Lvl} (h : Tall L) (hT : Tall T) : Tall (mergeL L T) := by
  unfold Tall at *
  rw [mergeL_length, mergeL_wsum]
  by_cases e : L.length ≤ T.length
  · rw [Nat.max_eq_right e]; omega
  · rw [Nat.max_eq_left (by omega)]; omega

/-- Two sketches' Came make that of the one into which the other came. -/
theorem came_merged {a b : Hd} {s t : Sd} {u : Nat} {cs : List Bool} {L' : List Lvl} (ha : Came a s) (hb : Came b t) (hfull : wsum a.sk.lv + wsum b.sk.lv ≤ 268435456) (hs : settle (mgK a b) cs 0 (mgL a b) = some (L', u)) :
    Came { sk := { k := mgK a b, lv := L', lo := mgLo a b, hi := mgHi a b }, sealed := a.sealed, taken := a.taken } (s.all t) := by
  have e1 : wsum (mgL a b) = wsum a.sk.lv + wsum b.sk.lv := mergeL_wsum _ _
  have e2 : (mgL a b).length = max a.sk.lv.length b.sk.lv.length := mergeL_length _ _
  have e4 : tsum (mgL a b) = tsum a.sk.lv + tsum b.sk.lv := mergeL_tsum _ _
  have e5 : nsum (mgL a b) = nsum a.sk.lv + nsum b.sk.lv := mergeL_nsum _ _
  have la := ha.inok.ok.len
  have lb := hb.inok.ok.len
  have la1 := ha.inok.ok.len1
  obtain ⟨k1, k2, k3, k4, k5⟩ := settle_keeps hs (by omega) (by omega)
  obtain ⟨f1, f2, f3, f4, f5, f6, f7⟩ := putN_facts (s := s) ha.len ha.pos hb.len hb.pos t.xs.length (Nat.le_refl _)
  have f2' : wAll (putN s t.xs t.ws t.xs.length).ws = wAll s.ws + wAll t.ws := by
    rw [f2, hb.len, List.take_length]
  have hn : (putN s t.xs t.ws t.xs.length).n = s.n + t.n := by
    rw [putN_n s t.xs t.ws t.xs.length (by rw [hb.len]; exact Nat.le_refl _), hb.len, List.take_length, hb.sum]
  have f4' : ∀ y ∈ t.xs, y ∈ (putN s t.xs t.ws t.xs.length).xs := by
    intro y hy
    obtain ⟨i, hi, rfl⟩ := List.mem_iff_getElem.1 hy
    have := f4 i hi
    simpa [List.getD, hi] using this
  have tna := ha.tn
  have tnb := hb.tn
  have na := ha.inok.n
  have nb := hb.inok.n
  have sa := ha.sum
  have sb := hb.sum
  have hLw : LvOk (putN s t.xs t.ws t.xs.length).xs (mgL a b) := LvOk.merge (ha.lvok.mono f3) (hb.lvok.mono f4')
  have hwl := wAll_len f6
  have ka1 := ha.inok.ok.k1
  have ka2 := ha.inok.ok.k2
  have kb1 := hb.inok.ok.k1
  have kb2 := hb.inok.ok.k2
  have hk : (if t.k < s.k then t.k else s.k) = mgK a b := by rw [ha.k, hb.k]; rfl
  have hk1 : 2 ≤ mgK a b := by unfold mgK mergeK; split <;> omega
  have hk2 : mgK a b ≤ 64 := by unfold mgK mergeK; split <;> omega
  refine ⟨⟨⟨hk1, hk2, ?_, k2, ?_, fun j => ?_⟩, ?_, k4, ?_, fun j => ?_⟩, hk, f1, ?_, hLw.settle hs, ?_, ?_, f6⟩
  · show 1 ≤ L'.length; omega
  · show wsum L' ≤ _; omega
  · have := tsum_at L' j
    show (L'.getD j Lvl.none).times ≤ _
    omega
  · show (putN s t.xs t.ws t.xs.length).n = wsum L'; omega
  · show (putN s t.xs t.ws t.xs.length).xs.length ≤ _; rw [f1]; omega
  · have := wAll_at (ws := (putN s t.xs t.ws t.xs.length).ws) (i := j)
    show (putN s t.xs t.ws t.xs.length).ws.getD j 0 ≤ _
    omega
  · show wAll (putN s t.xs t.ws t.xs.length).ws = (putN s t.xs t.ws t.xs.length).n; omega
  · show tsum L' + nsum L' ≤ wsum L'; omega
  · show (putN s t.xs t.ws t.xs.length).n = 0 ∨ (mgLo a b ∈ (putN s t.xs t.ws t.xs.length).xs ∧ mgHi a b ∈ (putN s t.xs t.ws t.xs.length).xs ∧ ∀ x ∈ (putN s t.xs t.ws t.xs.length).xs, mgLo a b ≤ x ∧ x ≤ mgHi a b)
    have sempty : ∀ {h : Hd} {s : Sd}, Came h s → s.n = 0 → s.xs = [] := fun hc h0 => by
      have := wAll_len hc.pos
      have h1 := hc.len
      have h2 := hc.sum
      exact List.eq_nil_of_length_eq_zero (by omega)
    unfold mgLo mgHi mergeLo mergeHi widenLo widenHi
    by_cases hb0 : t.n = 0
    · have htx := sempty hb hb0
      have hwb : ¬ 0 < wsum b.sk.lv := by omega
      rw [if_neg hwb, if_neg hwb]
      rcases ha.ends with h0 | ⟨m1, m2, m3⟩
      · left; omega
      · right
        refine ⟨f3 _ m1, f3 _ m2, fun x hx => ?_⟩
        rcases f5 x hx with h | h
        · exact m3 x h
        · rw [htx] at h; simp at h
    · have hwb : 0 < wsum b.sk.lv := by omega
      rw [if_pos hwb, if_pos hwb]
      right
      rcases hb.ends with h0 | ⟨q1, q2, q3⟩
      · exact absurd h0 hb0
      · by_cases ha0 : s.n = 0
        · have hsx := sempty ha ha0
          have hwa : wsum a.sk.lv = 0 := by omega
          rw [if_pos (.inl hwa), if_pos (.inl hwa)]
          refine ⟨f4' _ q1, f4' _ q2, fun x hx => ?_⟩
          rcases f5 x hx with h | h
          · rw [hsx] at h; simp at h
          · exact q3 x h
        · have hwa : wsum a.sk.lv ≠ 0 := by omega
          rcases ha.ends with h0 | ⟨m1, m2, m3⟩
          · exact absurd h0 ha0
          · refine ⟨?_, ?_, fun x hx => ?_⟩
            · split
              · exact f4' _ q1
              · exact f3 _ m1
            · split
              · exact f4' _ q2
              · exact f3 _ m2
            · rcases f5 x hx with h | h
              · have := m3 x h
                constructor
                · split <;> rename_i hc'
                  · rcases hc' with h' | h' <;> omega
                  · omega
                · split <;> rename_i hc'
                  · rcases hc' with h' | h' <;> omega
                  · omega
              · have := q3 x h
                constructor
                · split <;> rename_i hc'
                  · omega
                  · have : ¬ b.sk.lo < a.sk.lo := fun h' => hc' (.inr h')
                    omega
                · split <;> rename_i hc'
                  · omega
                  · have : ¬ a.sk.hi < b.sk.hi := fun h' => hc' (.inr h')
                    omega

/-- A Merge wants at most 230 coins. -/
theorem merge_few {a b : Hd} (ha : a.Ok) (hb : b.Ok) (sa : nsum a.sk.lv ≤ capSum a.sk.k a.sk.lv.length) (sb : nsum b.sk.lv ≤ capSum b.sk.k b.sk.lv.length) : nsum (mgL a b) ≤ capSum (mgK a b) (mgL a b).length + 230 := by
  have e2 : (mgL a b).length = max a.sk.lv.length b.sk.lv.length := mergeL_length _ _
  have e5 : nsum (mgL a b) = nsum a.sk.lv + nsum b.sk.lv := mergeL_nsum _ _
  have ca : capSum a.sk.k a.sk.lv.length ≤ 230 := by
    rw [← capSum_230]; exact Nat.le_trans (capSum_monoK ha.k2 _) (capSum_mono ha.len)
  have cb : capSum b.sk.k b.sk.lv.length ≤ 230 := by
    rw [← capSum_230]; exact Nat.le_trans (capSum_monoK hb.k2 _) (capSum_mono hb.len)
  rw [e2, e5]
  unfold mgK mergeK
  split
  · have := capSum_mono (k := b.sk.k) (Nat.le_max_right a.sk.lv.length b.sk.lv.length); omega
  · have := capSum_mono (k := a.sk.k) (Nat.le_max_left a.sk.lv.length b.sk.lv.length); omega

end Go.Proofs.Ytklicjbpjigfdab
