/- DERIVED. The walk of told. -/
import Derived.Test.YtklicjbpjigfdabGreatQ11
import Derived.Test.YtklicjbpjigfdabGreatQ10
import Derived.Test.YtklicjbpjigfdabGreatQ1
import Derived.Deep.RegionWith
import Derived.Deep.DrawnRows
namespace Go.Proofs.YtklicjbpjigfdabGreat
open Go.RowKit
variable {F : Nat → Prop}
attribute [local go_sem ↓] Go.wp_at_zero Go.wp_at_succ

theorem made_lvs (n : Nat) (hs : List (Nat × Nat)) : (madeCells (Value.agg #[.slice none 0 0, .int .i64 0]).cells (n * 2)).toList = lvCells (List.replicate n (Value.slice none 0 0)) (lvA hs 0 n) := by
  have e : (Value.agg #[.slice none 0 0, .int .i64 0]).cells = #[Value.slice none 0 0, .int .i64 0] := rfl
  have e2 : lvA hs 0 n = List.replicate n Lvl.none := by simp [lvA]
  rw [e, e2]
  apply List.ext_getElem?
  intro i
  have hl := lvCells_length (List.replicate n (Value.slice none 0 0)) (List.replicate n Lvl.none) (by simp)
  simp only [List.length_replicate] at hl
  rcases Nat.lt_or_ge i (n * 2) with h | h
  · rcases Nat.mod_two_eq_zero_or_one i with h2 | h2
    · have := lvCells_at0 (List.replicate n (Value.slice none 0 0)) (List.replicate n Lvl.none) (i / 2) (by simp) (by simp; omega)
      rw [show i / 2 * 2 = i by omega] at this
      rw [this]
      simp [madeCells, h, h2, List.getD, show i / 2 < n by omega]
    · have := lvCells_at1 (List.replicate n (Value.slice none 0 0)) (List.replicate n Lvl.none) (i / 2) (by simp) (by simp; omega)
      rw [show i / 2 * 2 + 1 = i by omega] at this
      rw [this]
      simp [madeCells, h, h2, List.getD, show i / 2 < n by omega, Lvl.none]
  · rw [List.getElem?_eq_none (by simp [madeCells]; omega), List.getElem?_eq_none (by omega)]

/-- The state ahead of the first loop. -/
theorem TdSt.begin {R p b0 : Nat} {t : ByteArray} {w w3 w4 w5 : World} {k n : Nat} {r : List Nat} (hs : List (Nat × Nat)) (hn : hs.length = n)
    (hres : w3.heap[R]? = some skZero) (hrd : RdAt w3 p t r) (hsk : w3.heap[b0]? = some (.cells #[.int .i64 (k : Int), .slice none 0 0, .int .i64 0, .int .i64 0] 64 (0, 0)))
    (hp : R < p) (hb0 : p < b0) (hb : Below R w w3) (ho4 : w4.ownsRow 0 3 1 (.slice (some ⟨w3.heap.size, 0, none⟩) n n) n (madeCells (Value.int .i64 0).cells (n * 1)).toList) (hg4 : w3.grownBy w4 none)
    (ho5 : w5.ownsRow 0 140 2 (.slice (some ⟨w4.heap.size, 0, none⟩) n n) n (madeCells (Value.agg #[.slice none 0 0, .int .i64 0]).cells (n * 2)).toList) (hg5 : w4.grownBy w5 none) :
    TdSt F R p b0 t w k w3.heap.size n w4.heap.size r 0 0 (szA hs 0 n) (lvA hs 0 n) (w5.setCell ⟨b0, 1, none⟩ (.slice (some ⟨w4.heap.size, 0, none⟩) n n)) := by
  have hz := lt_of_blk' hsk
  have hz4 := hg4.size
  have hk : ∀ b, b < w3.heap.size → w5.heap[b]? = w3.heap[b]? := fun b hb => (hg5.block b (by omega) (by simp)).trans (hg4.block b hb (by simp))
  have ho : ∀ b, b ≠ b0 → (w5.setCell ⟨b0, 1, none⟩ (.slice (some ⟨w4.heap.size, 0, none⟩) n n)).heap[b]? = w5.heap[b]? := fun b hb => Below.heap_setCell _ _ _ _ hb
  rw [made_szs n hs] at ho4
  rw [made_lvs n hs] at ho5
  have hl4 : w3.heap.size < w4.heap.size := ownsRow_lt ho4 rfl
  have hLn : (lvA hs 0 n).length = n := lvA_length hn (Nat.zero_le _)
  refine ⟨(ho _ (by omega)).trans ((hk _ (by omega)).trans hres), hrd.keep ((ho _ (by omega)).trans (hk _ (by omega))), (blk_set (i := 1) _ ((hk _ hz).trans hsk)).trans (by simp), ?_, ⟨List.replicate n (.slice none 0 0), ?_, ?_, ?_, ?_⟩, hLn, hz, by omega, ?_, hp, hb0⟩
  · refine ownsRow_block ho4 (fun g e => ?_)
    simp [Value.ownBlock] at e; subst e
    exact (ho _ (by omega)).trans (hg5.block _ hl4 (by simp))
  · rw [hLn]
    refine ownsRow_block ho5 (fun g e => ?_)
    simp [Value.ownBlock] at e; subst e
    exact ho _ (by omega)
  · simp [hLn]
  · intro h hh
    rw [hLn] at hh
    rw [show (List.replicate n (Value.slice none 0 0)).getD h undef = .slice none 0 0 by simp [List.getD, hh], lvA_items]
    exact Ints.nil _
  · intro h hh b hb
    rw [hLn] at hh
    rw [show (List.replicate n (Value.slice none 0 0)).getD h undef = .slice none 0 0 by simp [List.getD, hh]] at hb
    simp [Value.ownBlock] at hb
  · refine Below.setCell ?_ (by simp; omega) _
    have h1 : Below w3.heap.size w3 w4 := (Below.refl _ _).grown hg4 (Nat.le_refl _) (fun k h => by cases h)
    have h2 : Below w4.heap.size w4 w5 := (Below.refl _ _).grown hg5 (Nat.le_refl _) (fun k h => by cases h)
    exact (hb.trans (h1.mono (by omega))).trans (h2.mono (by omega))

theorem hsum_le : ∀ (hs : List (Nat × Nat)), (∀ p ∈ hs, p.1 < 256 ∧ p.2 < 4294967296) → hsum hs ≤ 255 * hs.length
  | [], _ => by simp [hsum]
  | (n, t) :: hs, h => by
    have h1 := hsum_le hs (fun p hp => h p (by simp [hp]))
    have h2 := (h (n, t) (by simp)).1
    simp only [hsum, List.length_cons]; simp only at h2; omega
theorem hsum_take_le : ∀ (hs : List (Nat × Nat)) (j : Nat), hsum (hs.take j) ≤ hsum hs
  | [], j => by simp [hsum]
  | (n, t) :: hs, 0 => by simp [hsum]
  | (n, t) :: hs, j + 1 => by have := hsum_take_le hs j; simp only [List.take_succ_cons, hsum]; omega
theorem szA_at {hs : List (Nat × Nat)} {j i n : Nat} (h : hs.length = n) (hj : i < j) (hjn : j ≤ n) : (szA hs j n).getD i 0 = (((hs.getD i (0, 0)).1 : Nat) : Int) := by
  unfold szA
  rw [List.getD_eq_getElem?_getD, List.getElem?_append_left (by simp; omega)]
  simp [hj, List.getD, show i < hs.length by omega]
theorem getD_bd {hs : List (Nat × Nat)} (h : ∀ p ∈ hs, p.1 < 256 ∧ p.2 < 4294967296) (j : Nat) : (hs.getD j (0, 0)).1 < 256 ∧ (hs.getD j (0, 0)).2 < 4294967296 := by
  rw [List.getD_eq_getElem?_getD]
  cases e : hs[j]? with
  | none => simp
  | some p => exact h p (List.mem_of_getElem? e)
/-- What is read of the ends, and what is left. -/
def tdR (hs : List (Nat × Nat)) (r : List Nat) : List Nat := if hsum hs = 0 then r else (r.drop 8).drop 8
def tdLo (hs : List (Nat × Nat)) (r : List Nat) : Int := if hsum hs = 0 then 0 else s64 (leV (r.take 8))
def tdHi (hs : List (Nat × Nat)) (r : List Nat) : Int := if hsum hs = 0 then 0 else s64 (leV ((r.drop 8).take 8))
theorem toldR_eq (k : Nat) (hs : List (Nat × Nat)) (r : List Nat) : toldR k hs r = ⟨k, toldLv hs (tdR hs r), tdLo hs r, tdHi hs r⟩ := by
  unfold toldR tdR tdLo tdHi
  split <;> rfl
theorem Fr.undrew {S : Nat → Prop} {w w' : World} (h : Fr S w.drew w') : Fr S w w' := ⟨h.os, h.tape, h.output, h.size, h.block⟩
theorem RdAt.drew {w : World} {p : Nat} {t : ByteArray} {r : List Nat} (h : RdAt w p t r) : RdAt w.drew p t r := h

theorem next_is {p m : Nat} {t : ByteArray} {r : List Nat} {w : World} {x : Int} (h : RdAt w p t r) (ht : t.size ≤ 140737488355328) (hm : m ≤ 8) (hx : s64 (leV (r.take m)) = x) :
    Calls Tryz.prog 111 #[.pointer (some ⟨p, 0, none⟩), .int .i64 (m : Int)] w fun e w' => e = .returned (.int .i64 x) ∧ RdAt w' p t (r.drop m) ∧ Fr (fun b => b = p) w w' := by
  subst hx; exact next_any p m t r w h ht hm

set_option maxHeartbeats 2000000 in
set_option maxRecDepth 100000 in
theorem told_any (t : ByteArray) (w : World) (ht : t.size ≤ 140737488355328) (hF : ∀ b, w.heap.size ≤ b → F b) :
    Calls Tryz.prog 91 #[.string t] w fun e w' => ∃ g vs, e = .returned (skVal (toldS (bytesOf t)).k g (toldS (bytesOf t)).lv.length (toldS (bytesOf t)).lv.length (toldS (bytesOf t)).lo (toldS (bytesOf t)).hi) ∧ w.heap.size ≤ g ∧ LvAt F w' g (toldS (bytesOf t)).lv.length vs (toldS (bytesOf t)).lv ∧ Below w.heap.size w w' := by
  obtain ⟨i0, hi0, hz0, hz1, hz2⟩ := info_parts Tryz.infoInt
  obtain ⟨i1, hi1, hy0, hy1, hy2⟩ := info_parts Tryz.infoLevel
  have HF := hid hF
  have HNX := hid (fun (m p : Nat) (r' : List Nat) (w' : World) (h' : RdAt w' p t r') (hm : m ≤ 8) => next_any p m t r' w' h' ht hm)
  have HNU := hid (fun (m p : Nat) (r' : List Nat) (w' : World) (h' : RdAt w' p t r') (hm : m < 256) => numbers_any p m t r' w' h' ht hm)
  have hlt := bytesOf_lt t
  have HTS : Hid (toldS (bytesOf t) = toldR (leV (((bytesOf t).drop 2).take 1)) (toldHd (leV ((((bytesOf t).drop 2).drop 1).take 1)) ((((bytesOf t).drop 2).drop 1).drop 1)) (((((bytesOf t).drop 2).drop 1).drop 1).drop (5 * leV ((((bytesOf t).drop 2).drop 1).take 1)))) := rfl
  have hk := leV_take (of_drop hlt 2) 1
  have hn := leV_take (of_drop (of_drop hlt 2) 1) 1
  have HHB := hid (toldHd_bd (leV ((((bytesOf t).drop 2).drop 1).take 1)) _ (of_drop (of_drop (of_drop hlt 2) 1) 1))
  have HHL := hid (toldHd_length (leV ((((bytesOf t).drop 2).drop 1).take 1)) ((((bytesOf t).drop 2).drop 1).drop 1))
  have HHA := hid (toldHd_at (leV ((((bytesOf t).drop 2).drop 1).take 1)) ((((bytesOf t).drop 2).drop 1).drop 1))
  generalize hT : toldS (bytesOf t) = T at *
  generalize hr0 : (bytesOf t).drop 2 = r0 at *
  have HR0 := hid hr0
  clear hT hlt hr0 hF
  have HK := hid (s64_small (n := leV (r0.take 1)) (by omega))
  have HN := hid (s64_small (n := leV ((r0.drop 1).take 1)) (by omega))
  generalize hK : leV (r0.take 1) = k at *
  generalize hNn : leV ((r0.drop 1).take 1) = n at *
  have HKE := hid hK
  have HNE := hid hNn
  generalize hhs : toldHd n ((r0.drop 1).drop 1) = hs at *
  generalize hr2 : (r0.drop 1).drop 1 = r2 at *
  have HR2 := hid hr2
  clear hK hNn hhs hr2
  generalize hR : w.heap.size = R at *
  have HRS := hid hR
  go_enter Tryz.func91, Tryz.ntmps91
  go_upto_region 3 with fail
  have hres0 : (((w.alloc skZero).alloc (.cells #[.string t, .int .i64 2] 179)).alloc skZero).heap[R]? = some skZero := by
    rw [← HRS.out, Below.heap_alloc _ _ _ (by simp; omega), Below.heap_alloc _ _ _ (by simp)]; exact heap_alloc_new _ _
  have hrd0 : RdAt (((w.alloc skZero).alloc (.cells #[.string t, .int .i64 2] 179)).alloc skZero) (R + 1) t r0 := by
    refine ⟨2, by omega, ?_, HR0.out⟩
    rw [← HRS.out, Below.heap_alloc _ _ _ (by simp), show w.heap.size + 1 = (w.alloc skZero).heap.size by simp]; exact heap_alloc_new _ _
  have hsk0 : (((w.alloc skZero).alloc (.cells #[.string t, .int .i64 2] 179)).alloc skZero).heap[R + 1 + 1]? = some skZero := by
    rw [← HRS.out, show w.heap.size + 1 + 1 = ((w.alloc skZero).alloc (.cells #[.string t, .int .i64 2] 179)).heap.size by simp]; exact heap_alloc_new _ _
  have hbl0 : Below R w (((w.alloc skZero).alloc (.cells #[.string t, .int .i64 2] 179)).alloc skZero) := by
    rw [← HRS.out]; exact (((Below.refl _ _).alloc (Nat.le_refl _) _).alloc (by simp) _).alloc (by simp; omega) _
  have hp : R < R + 1 := by omega
  have hb0 : R + 1 < R + 1 + 1 := by omega
  generalize ((w.alloc skZero).alloc (.cells #[.string t, .int .i64 2] 179)).alloc skZero = W0 at *
  generalize hpe : R + 1 = p at *
  generalize hbe : p + 1 = b0 at *
  clear hpe hbe
  obtain ⟨f0, f1, f2, f3, fz⟩ := blk4 hsk0
  go_wp2_with fail
  refine (next_is hrd0 ht (m := 1) (by decide) (x := (k : Int)) (by rw [HKE.out, HK.out])).mono ?_
  rintro e w1 ⟨rfl, hrd1, hf1⟩
  have hres1 := (hf1.block _ (lt_of_blk' hres0) (by omega)).trans hres0
  have hsk1 := (hf1.block _ (lt_of_blk' hsk0) (by omega)).trans hsk0
  have hbl1 := hbl0.trans (hf1.toBelow (Nat.le_of_lt (lt_of_blk' hres0)) (fun b e => by omega))
  clear f0 f1 f2 f3 fz hres0 hrd0 hsk0 hbl0 hf1
  obtain ⟨f0, f1, f2, f3, fz⟩ := blk4 hsk1
  go_upto_region 4 with fail
  have hrd2 := hrd1.keep (w' := w1.setCell ⟨b0, 0, none⟩ (.int .i64 (k : Int))) (Below.heap_setCell _ _ _ _ (by simp; omega))
  have hres2 : (w1.setCell ⟨b0, 0, none⟩ (.int .i64 (k : Int))).heap[R]? = some skZero := (Below.heap_setCell _ _ _ _ (by simp; omega)).trans hres1
  have hsk2 := blk_set (i := 0) (.int .i64 (k : Int)) hsk1
  have hbl2 := hbl1.setCell (p := ⟨b0, 0, none⟩) (by simp; omega) (.int .i64 (k : Int))
  simp only [List.setIfInBounds_toArray, List.set_cons_zero] at hsk2
  clear f0 f1 f2 f3 fz hres1 hrd1 hsk1 hbl1
  generalize w1.setCell ⟨b0, 0, none⟩ (.int .i64 (k : Int)) = W2 at *
  go_wp2_with fail
  refine (next_is hrd2 ht (m := 1) (by decide) (x := (n : Int)) (by rw [HNE.out, HN.out])).mono ?_
  rintro e w3 ⟨rfl, hrd3, hf3⟩
  have hres3 := (hf3.block _ (lt_of_blk' hres2) (by omega)).trans hres2
  have hsk3 := (hf3.block _ (lt_of_blk' hsk2) (by omega)).trans hsk2
  have hbl3 := hbl2.trans (hf3.toBelow (Nat.le_of_lt (lt_of_blk' hres2)) (fun b e => by omega))
  rw [HR2.out] at hrd3
  have HRES := hid hres3
  have HRD := hid hrd3
  have HSK := hid hsk3
  have HBL := hid hbl3
  obtain ⟨f0, f1, f2, f3, fz⟩ := blk4 hsk3
  have hbz := lt_of_blk' hsk3
  clear hres2 hrd2 hsk2 hbl2 hf3 hres3 hrd3 hsk3 hbl3
  go_upto_region 7 with (first | (at_make; refine wpList_make_full _ rfl _ _ 28 rfl 0 3 i0 (.int .i64 0) 1 Tryz.underlying28 hi0 hz0 hz1 _ _ _ _ n rfl rfl (by rfl) (by rfl) (by rw [hz2]; omega) (by unfold maxLen; omega) (Nat.zero_le _) ?_; intro w4 hown4 hgrow4; have HO4 := hid hown4; have HG4 := hid hgrow4; clear hown4 hgrow4) | (at_make; refine wpList_make_full _ rfl _ _ 62 rfl 0 140 i1 (.agg #[.slice none 0 0, .int .i64 0]) 2 Tryz.underlying62 hi1 hy0 hy1 _ _ _ _ n rfl rfl (by rfl) (by rfl) (by rw [hy2]; omega) (by unfold maxLen; omega) (Nat.zero_le _) ?_; intro w5 hown5 hgrow5; have HO5 := hid hown5; have HG5 := hid hgrow5; clear hown5 hgrow5; have q1 := (World.cell?_of_block ((HG5.out.block b0 (by have := HG4.out.size; omega) (by simp)).trans (HG4.out.block b0 hbz (by simp)))).trans f1; have qz := fun o => ((World.frozen?_of_block ((HG5.out.block b0 (by have := HG4.out.size; omega) (by simp)).trans (HG4.out.block b0 hbz (by simp)))).trans (fz o) : w5.frozen? ⟨b0, o, none⟩ = false)))
  have HS0 : Hid (TdSt F R p b0 t w k w3.heap.size n w4.heap.size (r2.drop (5 * 0)) 0 0 (szA hs 0 n) (lvA hs 0 n) (w5.setCell ⟨b0, 1, none⟩ (.slice (some ⟨w4.heap.size, 0, none⟩) n n))) := TdSt.begin hs HHL.out HRES.out HRD.out HSK.out hp hb0 HBL.out HO4.out HG4.out HO5.out HG5.out
  have hgs0 : b0 < w3.heap.size := hbz
  generalize w5.setCell ⟨b0, 1, none⟩ (.slice (some ⟨w4.heap.size, 0, none⟩) n n) = W5 at *
  clear q1 qz f0 f1 f2 f3 fz HO5 HG5 HO4 HG4 HRES HRD HSK HBL hbz
  generalize w3.heap.size = gs at *
  generalize w4.heap.size = gl at *
  have hsb := hsum_le hs HHB.out
  rw [HHL.out] at hsb
  go_upto_region 8 with fail
  go_wp2_with fail
  go_loopw [7, 24] (fun sc si wr => ∃ j : Nat, j ≤ n ∧ sc = .int .i64 ((hsum (hs.take j) : Nat) : Int) ∧ si = .int .i64 j ∧ Hid (TdSt F R p b0 t w k gs n gl (r2.drop (5 * j)) 0 0 (szA hs j n) (lvA hs j n) wr)) (fun _ si _ => n - (intOf si).toNat)
  case atStart => exact ⟨0, Nat.zero_le _, by simp [hsum], rfl, HS0⟩
  case round =>
    obtain ⟨j, hj, rfl, rfl, HS⟩ := hrel
    clear HS0
    by_cases hlt : j < n
    · have HA := hid (HHA.out j hlt)
      have hbd := getD_bd HHB.out j
      have HSM := hid (hsum_step (hs := hs) (j := j) (by rw [HHL.out]; exact hlt))
      have hsj := hsum_take_le hs (j + 1)
      have HZS := hid (szA_set (hs := hs) HHL.out hlt)
      have HZA := hid (szA_at (hs := hs) (i := j) (j := j + 1) HHL.out (by omega) (by omega))
      have HLT := hid (lvA_times (hs := hs) HHL.out hlt)
      have HDD : Hid (((r2.drop (5 * j)).drop 1).drop 4 = r2.drop (5 * (j + 1))) := by unfold Hid; rw [List.drop_drop, List.drop_drop, show 5 * j + (1 + 4) = 5 * (j + 1) by omega]
      rw [HSM.out] at hsj
      generalize hs.getD j (0, 0) = pr at *
      obtain ⟨a, tm⟩ := pr
      simp only at hbd hsj
      have HA1 : Hid (s64 (leV ((r2.drop (5 * j)).take 1)) = (a : Int)) := by unfold Hid; rw [← (Prod.mk.inj HA.out).1]; exact s64_small (by omega)
      have HA2 : Hid (s64 (leV (((r2.drop (5 * j)).drop 1).take 4)) = (tm : Int)) := by unfold Hid; rw [← (Prod.mk.inj HA.out).2]; exact s64_small (by omega)
      generalize hc : hsum (hs.take j) = c at *
      have HC := hid hc
      clear hc HA
      go_wp2_with fail
      refine (next_is HS.out.rd ht (m := 1) (by decide) HA1.out).mono ?_
      rintro e w6 ⟨rfl, hr6, hf6⟩
      have HS6 := hid (HS.out.next hr6 hf6)
      obtain ⟨z0, zz⟩ := HS6.out.szCell hlt
      clear hr6 hf6
      go_upto_region 12 with fail
      have HS7 := hid (HS6.out.size j (a : Int))
      generalize w6.setCell ⟨gs, j, none⟩ (.int .i64 (a : Int)) = W7 at *
      clear z0 zz HS6 HS
      rw [HZS.out] at HS7
      obtain ⟨⟨u0, v0, o0⟩, ⟨u1, v1⟩, vz⟩ := HS7.out.lvCell hlt
      obtain ⟨f0, f1, f2, f3, fz⟩ := HS7.out.cells
      have hs1 : (0 : Int) ≤ (j : Int) := by omega
      have hs2 : (j : Int) < (n : Int) := by omega
      go_cut [] from 25 to 43 (fun wd => TdSt F R p b0 t w k gs n gl (r2.drop (5 * (j + 1))) 0 0 (szA hs (j + 1) n) (lvA hs (j + 1) n) wd)
      case first =>
        go_region_with (first | (go_at_call 111; refine (next_is (HS7.out.rd.drew) ht (m := 4) (by decide) HA2.out).mono ?_; rintro e w8 ⟨rfl, hr8, hf8⟩; have HS8 := hid (HS7.out.next hr8 hf8.undrew); obtain ⟨⟨x0, y0, yo⟩, ⟨x1, y1⟩, yz⟩ := HS8.out.lvCell hlt; obtain ⟨g0, g1, g2, g3, gz⟩ := HS8.out.cells; clear hr8 hf8))
        all_goals
          go_wp2_with fail
          go_meet
          have hf := HS8.out.times hlt tm
          rw [HLT.out, HDD.out] at hf
          exact hf
      case rest =>
        have HS9 := hid hcut
        obtain ⟨z0, zz⟩ := HS9.out.szCell hlt
        rw [HZA.out] at z0
        try simp only at z0
        clear hcut f0 f1 f2 f3 fz v0 v1 vz HS7
        go_wp2_with fail
        go_roundw
        case rel => exact ⟨j + 1, by omega, by rw [HSM.out]; go_num, by go_num, HS9⟩
        case measure => simp [intOf]; omega
    · obtain rfl : n = j := by omega
      have HHS := hid (List.take_of_length_le (show hs.length ≤ n by rw [HHL.out]; exact Nat.le_refl _))
      rw [HHS.out]
      have hsb' : ((hsum hs : Nat) : Int) ≤ 65025 := by omega
      have HLA := hid (lvA_all (tdR hs (r2.drop (5 * n))) HHL.out)
      have HZ := hid (fun (i : Nat) (hi : i < n) => szA_at (hs := hs) (i := i) (j := n) HHL.out hi (Nat.le_refl _))
      have HTR : Hid (T = ⟨k, toldLv hs (tdR hs (r2.drop (5 * n))), tdLo hs (r2.drop (5 * n)), tdHi hs (r2.drop (5 * n))⟩) := by unfold Hid; rw [HTS.out]; exact toldR_eq _ _ _
      have HXR : Hid (tdR hs (r2.drop (5 * n)) = if hsum hs = 0 then r2.drop (5 * n) else ((r2.drop (5 * n)).drop 8).drop 8) := rfl
      have HXL : Hid (tdLo hs (r2.drop (5 * n)) = if hsum hs = 0 then 0 else s64 (leV ((r2.drop (5 * n)).take 8))) := rfl
      have HXH : Hid (tdHi hs (r2.drop (5 * n)) = if hsum hs = 0 then 0 else s64 (leV (((r2.drop (5 * n)).drop 8).take 8))) := rfl
      generalize tdR hs (r2.drop (5 * n)) = X at *
      generalize tdLo hs (r2.drop (5 * n)) = LO at *
      generalize tdHi hs (r2.drop (5 * n)) = HI at *
      generalize r2.drop (5 * n) = rr at *
      generalize szA hs n n = SZ at *
      generalize lvA hs n n = LA at *
      generalize hcs : hsum hs = c at *
      obtain ⟨f0, f1, f2, f3, fz⟩ := HS.out.cells
      go_upto_if 45 with fail
      go_cut [] from 24 (fun we => TdSt F R p b0 t w k gs n gl X LO HI SZ LA we)
      case first =>
        by_cases hc0 : 0 < c
        · have hc0' : decide ((0 : Int) < (c : Int)) = true := by simp; omega
          have HXL2 : Hid (s64 (leV (rr.take 8)) = LO) := by unfold Hid; rw [HXL.out, if_neg (by omega)]
          have HXH2 : Hid (s64 (leV ((rr.drop 8).take 8)) = HI) := by unfold Hid; rw [HXH.out, if_neg (by omega)]
          have HXR2 : Hid ((rr.drop 8).drop 8 = X) := by unfold Hid; rw [HXR.out, if_neg (by omega)]
          clear HXL HXH HXR
          go_wp2_with fail
          refine (next_is HS.out.rd ht (m := 8) (by decide) HXL2.out).mono ?_
          rintro e w6 ⟨rfl, hr6, hf6⟩
          have HS6 := hid (HS.out.next hr6 hf6)
          clear f0 f1 f2 f3 fz hr6 hf6
          obtain ⟨f0, f1, f2, f3, fz⟩ := HS6.out.cells
          go_upto_region 17 with fail
          have HS7 := hid (HS6.out.lo LO)
          generalize w6.setCell ⟨b0, 2, none⟩ (.int .i64 LO) = W7 at *
          clear f0 f1 f2 f3 fz HS6
          obtain ⟨f0, f1, f2, f3, fz⟩ := HS7.out.cells
          go_wp2_with fail
          refine (next_is HS7.out.rd ht (m := 8) (by decide) HXH2.out).mono ?_
          rintro e w8 ⟨rfl, hr8, hf8⟩
          have HS8 := hid (HS7.out.next hr8 hf8)
          clear f0 f1 f2 f3 fz hr8 hf8
          obtain ⟨f0, f1, f2, f3, fz⟩ := HS8.out.cells
          go_wp2_with fail
          go_meet
          have hf := HS8.out.hi HI
          rw [HXR2.out] at hf
          exact hf
        · have hc0' : decide ((0 : Int) < (c : Int)) = false := by simp; omega
          go_wp2_with fail
          go_meet
          have hf := HS.out
          rw [HXL.out, HXH.out, HXR.out, if_pos (by omega), if_pos (by omega), if_pos (by omega)]
          exact hf
      case rest =>
        have HS9 := hid hcut
        clear hcut f0 f1 f2 f3 fz HS HXL HXH HXR
        rw [HLA.out] at HS9
        go_wp2_with fail
        go_loopw [52] (fun si wr => ∃ j : Nat, j ≤ n ∧ si = .int .i64 j ∧ Hid (TdSt F R p b0 t w k gs n gl (X.drop (8 * hsum (hs.take j))) LO HI SZ (lvC hs X j) wr)) (fun si _ => n - (intOf si).toNat)
        case atStart => exact ⟨0, Nat.zero_le _, rfl, by simpa [hsum] using HS9⟩
        case round =>
          obtain ⟨j, hj, rfl, HS⟩ := hrel
          clear HS9
          by_cases hlt : j < n
          · have hbd := getD_bd HHB.out j
            have HSM := hid (hsum_step (hs := hs) (j := j) (by rw [HHL.out]; exact hlt))
            have HLC := hid (lvC_items (hs := hs) (r := X) HHL.out hlt)
            obtain ⟨z0, zz⟩ := HS.out.szCell hlt
            rw [HZ.out j hlt] at z0
            generalize hs.getD j (0, 0) = pr at *
            obtain ⟨a, tm⟩ := pr
            simp only at hbd z0
            have HDD : Hid ((X.drop (8 * hsum (hs.take j))).drop (8 * a) = X.drop (8 * hsum (hs.take (j + 1)))) := by unfold Hid; rw [HSM.out, List.drop_drop]; congr 1; simp only; omega
            obtain ⟨⟨u0, v0, o0⟩, ⟨u1, v1⟩, vz⟩ := HS.out.lvCell hlt
            obtain ⟨f0, f1, f2, f3, fz⟩ := HS.out.cells
            have hs1 : (0 : Int) ≤ (j : Int) := by omega
            have hs2 : (j : Int) < (n : Int) := by omega
            go_upto_region 21 with fail
            go_region_with (first | (go_at_call 112; refine (HNU.out a p _ _ HS.out.rd.drew (by omega)).mono ?_; rintro e w8 ⟨rfl, hown8, hr8, hf8⟩; have HS8 := hid (HS.out.next hr8 hf8.undrew); have HO8 := hid hown8; obtain ⟨⟨x0, y0, yo⟩, ⟨x1, y1⟩, yz⟩ := HS8.out.lvCell hlt; obtain ⟨g0, g1, g2, g3, gz⟩ := HS8.out.cells; clear hr8 hf8 hown8))
            all_goals
              go_wp2_with fail
              go_roundw
              case rel =>
                refine ⟨j + 1, by omega, by go_num, ?_⟩
                have hf := HS8.out.items hlt (Ints.of HO8.out) (fun b hb => by
                  simp [Value.ownBlock] at hb
                  subst hb
                  have h1 : gs < wr.heap.size := ownsRow_lt HS.out.sz rfl
                  have h2 := HS.out.bel.size
                  refine ⟨HF.out _ ?_, ?_⟩
                  · have := lt_of_blk' HS.out.res; omega
                  · omega)
                rw [HLC.out, HDD.out] at hf
                exact hf
              case measure => simp [intOf]; omega
          · obtain rfl : n = j := by omega
            have HLV := hid (lvC_all (r := X) HHL.out)
            obtain ⟨f0, f1, f2, f3, fz⟩ := HS.out.cells
            obtain ⟨d0, d1, d2, d3, dz⟩ := blk4 HS.out.res
            go_wp2_with fail
            have hS := HS.out
            rw [HLV.out] at hS
            obtain ⟨vs, hL⟩ := hS.lv
            have hlen := hS.len
            have hkl : T.lv.length = n := by rw [HTR.out]; exact hlen
            refine bodyPost_ret (v := skVal k gl n n LO HI) (by simp [results, Tryz.results91, go_sem, d0, d1, d2, d3]) rfl ⟨gl, vs, ?_, ?_, ?_, ?_⟩
            · rw [hkl, HTR.out]
            · have := hS.hl; have := hS.hp; have := hS.hb; omega
            · rw [hkl, HTR.out]
              refine (hL.block (fun c hc => set4_other _ _ _ _ (fun e => ?_))).wider (fun b hb => hb.1)
              subst e
              rcases hc with hc | ⟨c, hc⟩
              · have := hS.hl; have := hS.hp; have := hS.hb; omega
              · rw [hS.res] at hc; cases hc
            · exact below_set4 hS.bel (Nat.le_refl _) _ _ _ _

end Go.Proofs.YtklicjbpjigfdabGreat

/- DERIVED. The walks of Sound's parts over the levels: wasThinned, hasItem, itemsSound, timesSound. -/
namespace Go.Proofs.YtklicjbpjigfdabGreat
open Go.RowKit
variable {F : Nat → Prop}

theorem thinnedB_step {L : List Lvl} {j : Nat} (h : j < L.length) : thinnedB (L.drop j) = (decide (0 < (L.getD j Lvl.none).times) || thinnedB (L.drop (j + 1))) := by
  rw [lv_drop L j h]; rfl
theorem hasB_step {x : Int} {L : List Lvl} {j : Nat} (h : j < L.length) : hasIt x (L.drop j) = ((L.getD j Lvl.none).items.any (fun y => y == x) || hasIt x (L.drop (j + 1))) := by
  rw [lv_drop L j h]; rfl
theorem any_step {x : Int} {l : List Int} {i : Nat} (h : i < l.length) : (l.drop i).any (fun y => y == x) = ((l.getD i 0 == x) || (l.drop (i + 1)).any (fun y => y == x)) := by
  rw [List.drop_eq_getElem_cons h, List.any_cons]; simp [List.getD, h]

set_option maxHeartbeats 400000 in
theorem wasThinned_any (k g cap : Nat) (lo hi : Int) (vs : List Value) (L : List Lvl) (w : World) (hL : LvAt F w g cap vs L) (hlen : L.length ≤ 64) :
    Calls Tryz.prog 125 #[skVal k g L.length cap lo hi] w fun e w' => e = .returned (.bool (thinnedB L)) ∧ Below w.heap.size w w' := by
  generalize hn : L.length = n at *
  have HN := hid hn
  clear hn
  go_enter Tryz.func125, Tryz.ntmps125
  go_wp2
  go_loopw [8] (fun i wr => ∃ j : Nat, j ≤ n ∧ i = .int .i64 j ∧ Hid (thinnedB (L.drop j) = thinnedB L) ∧ Below w.heap.size w wr) (fun i _ => n - (intOf i).toNat)
  case atStart => exact ⟨0, Nat.zero_le _, rfl, rfl, (Below.refl _ _).alloc (Nat.le_refl _) _⟩
  case round =>
    obtain ⟨j, hj, rfl, Hc, hb⟩ := hrel
    by_cases hlt : j < n
    · have hlt' : j < L.length := by rw [HN.out]; exact hlt
      obtain ⟨ao, cc, ev⟩ := hL.itemsForm hlt'
      have c0 : wr.cell? ⟨g, j * 2, none⟩ = some (.slice ao (L.getD j Lvl.none).items.length cc) := (hb.cell (by exact hL.lt)).trans ((hL.cell0 hlt').trans (by rw [ev]))
      have c1 : wr.cell? ⟨g, j * 2 + 1, none⟩ = some (.int .i64 ((L.getD j Lvl.none).times : Int)) := (hb.cell (by exact hL.lt)).trans (hL.cell1 hlt')
      have HS := hid (thinnedB_step hlt')
      generalize (L.getD j Lvl.none).items.length = m at *
      generalize (L.getD j Lvl.none).times = tm at *
      clear ev
      by_cases ht : 0 < tm
      · have ht' : decide ((0 : Int) < (tm : Int)) = true := by simp; omega
        go_wp2
        go_ret
        refine ⟨?_, hb.alloc hb.size _⟩
        have := Hc.out
        rw [HS.out] at this
        rw [← this]; simp [ht]
      · have ht' : decide ((0 : Int) < (tm : Int)) = false := by simp; omega
        go_wp2
        go_roundw
        case rel =>
          refine ⟨j + 1, by omega, by go_num, ?_, hb.alloc hb.size _⟩
          have := Hc.out
          rw [HS.out] at this
          unfold Hid
          rw [← this]; simp [ht]
        case measure => simp [intOf]; omega
    · have HE : Hid (thinnedB L = false) := by
        have := Hc.out
        rw [List.drop_eq_nil_of_le (by rw [HN.out]; omega)] at this
        exact this.symm
      go_wp2
      go_ret
      exact ⟨by rw [HE.out]; rfl, hb⟩

set_option maxHeartbeats 1000000 in
theorem hasItem_any (k g cap : Nat) (lo hi x : Int) (vs : List Value) (L : List Lvl) (w : World) (hL : LvAt F w g cap vs L) (hlen : L.length ≤ 64) (hns : nsum L ≤ 1099511627776) :
    Calls Tryz.prog 126 #[skVal k g L.length cap lo hi, .int .i64 x] w fun e w' => e = .returned (.bool (hasIt x L)) ∧ Below w.heap.size w w' := by
  generalize hn : L.length = n at *
  have HN := hid hn
  have HLV := hid hL
  clear hn hL
  go_enter Tryz.func126, Tryz.ntmps126
  go_wp2
  go_loopw [12] (fun i wr => ∃ j : Nat, j ≤ n ∧ i = .int .i64 j ∧ Hid (hasIt x (L.drop j) = hasIt x L) ∧ Below w.heap.size w wr) (fun i _ => n - (intOf i).toNat)
  case atStart => exact ⟨0, Nat.zero_le _, rfl, rfl, (Below.refl _ _).alloc (Nat.le_refl _) _⟩
  case round =>
    obtain ⟨j, hj, rfl, Hc, hb⟩ := hrel
    by_cases hlt : j < n
    · have hlt' : j < L.length := by rw [HN.out]; exact hlt
      obtain ⟨ao, cc, ev, _, _, hno, hso⟩ := (HLV.out.its j hlt').form
      have c0 := (hb.cell (p := ⟨g, j * 2, none⟩) (by exact HLV.out.lt)).trans (HLV.out.cell0 hlt')
      rw [ev] at c0
      have c1 : wr.cell? ⟨g, j * 2 + 1, none⟩ = some (.int .i64 ((L.getD j Lvl.none).times : Int)) := (hb.cell (by exact HLV.out.lt)).trans (HLV.out.cell1 hlt')
      have HS := hid (hasB_step (x := x) hlt')
      have hm := nsum_at hlt'
      clear ev
      generalize (L.getD j Lvl.none).items = its at *
      generalize hmn : its.length = m at *
      have HM := hid hmn
      have HNO := hid hno
      have HSO := hid hso
      generalize (L.getD j Lvl.none).times = tm at *
      have HB := hid hb
      clear hmn hno hso
      go_wp2
      go_loop [19] (fun i => ∃ t : Nat, t ≤ m ∧ i = .int .i64 t ∧ Hid ((its.drop t).any (fun y => y == x) = its.any (fun y => y == x))) (fun i => m - (intOf i).toNat)
      case atStart => exact ⟨0, Nat.zero_le _, rfl, rfl⟩
      case round =>
        obtain ⟨t, ht, rfl, Ht⟩ := hrel
        by_cases htl : t < m
        · obtain ⟨gi, rfl⟩ : ∃ g, ao = some ⟨g, 0, none⟩ := by
            cases ao with
            | none => have := (HNO.out rfl).1; rw [this] at HM; have := HM.out; simp at this; omega
            | some a => obtain ⟨g, rfl, _⟩ := HSO.out a rfl; exact ⟨g, rfl⟩
          obtain ⟨gi', e1, hgi, hcc⟩ := HSO.out _ rfl
          cases e1
          have hcell : wr.cell? ⟨gi, t, none⟩ = some (.int .i64 (its.getD t 0)) := (HB.out.cell hgi).trans (hcc t htl)
          have hgz : gi < wr.heap.size := Nat.lt_of_lt_of_le hgi HB.out.size
          have HS2 := hid (any_step (x := x) (l := its) (i := t) (by rw [HM.out]; exact htl))
          generalize its.getD t 0 = y at *
          clear hcc
          by_cases hy : y = x
          · have hy' : (y == x) = true := by simp [hy]
            have HY : Hid (hasIt x L = true) := by
              have h1 := Ht.out; rw [HS2.out, hy'] at h1
              have h2 := Hc.out; rw [HS.out, ← h1] at h2
              unfold Hid; rw [← h2]; simp
            clear hy
            go_wp2
            go_ret
            exact ⟨by rw [HY.out]; rfl, HB.out.alloc HB.out.size _⟩
          · have hy' : (y == x) = false := by simp [hy]
            go_wp2
            go_round
            case rel =>
              refine ⟨t + 1, by omega, by go_num, ?_⟩
              have h1 := Ht.out; rw [HS2.out, hy', Bool.false_or] at h1
              exact h1
            case measure => simp [intOf]; omega
        · have HE : Hid (hasIt x (L.drop (j + 1)) = hasIt x L) := by
            have h1 := Ht.out
            rw [List.drop_eq_nil_of_le (by rw [HM.out]; omega)] at h1
            have h2 := Hc.out
            rw [HS.out, ← h1] at h2
            simpa [Hid] using h2
          go_wp2
          go_roundw
          case rel => exact ⟨j + 1, by omega, by go_num, HE, HB.out.alloc HB.out.size _⟩
          case measure => simp [intOf]; omega
    · have HE : Hid (hasIt x L = false) := by
        have := Hc.out
        rw [List.drop_eq_nil_of_le (by rw [HN.out]; omega)] at this
        exact this.symm
      go_wp2
      go_ret
      exact ⟨by rw [HE.out]; rfl, hb⟩

theorem risesB_iff : ∀ l : List Int, risesB l = true ↔ ∀ t, t + 1 < l.length → l.getD t 0 ≤ l.getD (t + 1) 0
  | [] => by simp [risesB]
  | [_] => by simp [risesB]
  | x :: y :: r => by
    rw [risesB, Bool.and_eq_true, decide_eq_true_eq, risesB_iff (y :: r)]
    constructor
    · rintro ⟨h1, h2⟩ t ht
      cases t with
      | zero => simpa using h1
      | succ t => simpa using h2 t (by simpa using ht)
    · intro h
      exact ⟨by simpa using h 0 (by simp), fun t ht => by simpa using h (t + 1) (by simpa using ht)⟩
/-- Is the item at t as it must be? -/
def ItOk (lo hi : Int) (l : List Int) (t : Nat) : Prop := lo ≤ l.getD t 0 ∧ l.getD t 0 ≤ hi ∧ (0 < t → l.getD (t - 1) 0 ≤ l.getD t 0)
theorem lvB_iff (lo hi : Int) (l : Lvl) : lvB lo hi l = true ↔ ∀ t, t < l.items.length → ItOk lo hi l.items t := by
  unfold lvB ItOk
  rw [Bool.and_eq_true, risesB_iff, List.all_eq_true]
  constructor
  · rintro ⟨h1, h2⟩ t ht
    have h3 := h1 (l.items.getD t 0) (by rw [List.getD_eq_getElem?_getD, List.getElem?_eq_getElem ht]; exact List.getElem_mem ht)
    simp only [Bool.and_eq_true, decide_eq_true_eq] at h3
    refine ⟨h3.1, h3.2, fun h0 => ?_⟩
    have := h2 (t - 1) (by omega)
    rwa [show t - 1 + 1 = t by omega] at this
  · intro h
    refine ⟨fun x hx => ?_, fun t ht => ?_⟩
    · obtain ⟨t, ht, rfl⟩ := List.getElem_of_mem hx
      have := h t ht
      rw [List.getD_eq_getElem?_getD, List.getElem?_eq_getElem ht] at this
      simpa using ⟨this.1, this.2.1⟩
    · have := (h (t + 1) ht).2.2 (by omega)
      simpa using this
theorem allB_step {lo hi : Int} {L : List Lvl} {j : Nat} (h : j < L.length) : (L.drop j).all (lvB lo hi) = (lvB lo hi (L.getD j Lvl.none) && (L.drop (j + 1)).all (lvB lo hi)) := by
  rw [lv_drop L j h, List.all_cons]

set_option maxHeartbeats 1600000 in
theorem itemsSound_any (k g cap : Nat) (lo hi : Int) (vs : List Value) (L : List Lvl) (w : World) (hL : LvAt F w g cap vs L) (hlen : L.length ≤ 64) (hns : nsum L ≤ 1099511627776) :
    Calls Tryz.prog 115 #[skVal k g L.length cap lo hi] w fun e w' => e = .returned (.bool (L.all (lvB lo hi))) ∧ Below w.heap.size w w' := by
  generalize hn : L.length = n at *
  have HN := hid hn
  have HLV := hid hL
  clear hn hL
  go_enter Tryz.func115, Tryz.ntmps115
  go_wp2
  go_loopw [10] (fun i wr => ∃ j : Nat, j ≤ n ∧ i = .int .i64 j ∧ Hid ((L.drop j).all (lvB lo hi) = L.all (lvB lo hi)) ∧ Below (w.alloc (.cells #[.int .i64 (k : Int), .slice (some ⟨g, 0, none⟩) n cap, .int .i64 lo, .int .i64 hi] 64)).heap.size (w.alloc (.cells #[.int .i64 (k : Int), .slice (some ⟨g, 0, none⟩) n cap, .int .i64 lo, .int .i64 hi] 64)) wr) (fun i _ => n - (intOf i).toNat)
  case atStart => exact ⟨0, Nat.zero_le _, rfl, rfl, Below.refl _ _⟩
  case round =>
    obtain ⟨j, hj, rfl, Hc, hbb⟩ := hrel
    obtain ⟨b0, b1, b2, b3⟩ := box4 hbb
    have hb : Below w.heap.size w wr := ((Below.refl _ _).alloc (Nat.le_refl _) _).trans (hbb.mono (by simp))
    have hwz : w.heap.size < wr.heap.size := by have := hbb.size; simp at this; omega
    have HBB := hid hbb
    clear hbb
    by_cases hlt : j < n
    · have hlt' : j < L.length := by rw [HN.out]; exact hlt
      obtain ⟨ao, cc, ev, _, _, hno, hso⟩ := (HLV.out.its j hlt').form
      have c0 := (hb.cell (p := ⟨g, j * 2, none⟩) (by exact HLV.out.lt)).trans (HLV.out.cell0 hlt')
      rw [ev] at c0
      have c1 : wr.cell? ⟨g, j * 2 + 1, none⟩ = some (.int .i64 ((L.getD j Lvl.none).times : Int)) := (hb.cell (by exact HLV.out.lt)).trans (HLV.out.cell1 hlt')
      have HS := hid (allB_step (lo := lo) (hi := hi) hlt')
      have HI := hid (lvB_iff lo hi (L.getD j Lvl.none))
      have hm := nsum_at hlt'
      clear ev
      generalize lvB lo hi (L.getD j Lvl.none) = lb at *
      generalize (L.getD j Lvl.none).items = its at *
      generalize hmn : its.length = m at *
      have HM := hid hmn
      have HNO := hid hno
      have HSO := hid hso
      generalize (L.getD j Lvl.none).times = tm at *
      have HB := hid hb
      clear hmn hno hso hb
      go_wp2
      go_loop [17] (fun i => ∃ t : Nat, t ≤ m ∧ i = .int .i64 t ∧ Hid (∀ s, s < t → ItOk lo hi its s)) (fun i => m - (intOf i).toNat)
      case atStart => exact ⟨0, Nat.zero_le _, rfl, fun s hs => by omega⟩
      case round =>
        obtain ⟨t, ht, rfl, Ht⟩ := hrel
        by_cases htl : t < m
        · obtain ⟨gi, rfl⟩ : ∃ g, ao = some ⟨g, 0, none⟩ := by
            cases ao with
            | none => have := (HNO.out rfl).1; rw [this] at HM; have := HM.out; simp at this; omega
            | some a => obtain ⟨g, rfl, _⟩ := HSO.out a rfl; exact ⟨g, rfl⟩
          obtain ⟨gi', e1, hgi, hcc⟩ := HSO.out _ rfl
          cases e1
          have hcell : wr.cell? ⟨gi, t, none⟩ = some (.int .i64 (its.getD t 0)) := (HB.out.cell hgi).trans (hcc t htl)
          have hgz : gi < wr.heap.size := Nat.lt_of_lt_of_le hgi HB.out.size
          have HBAD : Hid (¬ ItOk lo hi its t → L.all (lvB lo hi) = false) := fun hbad => by
            have h1 : lb = false := by
              cases hlb : lb with
              | false => rfl
              | true => exact absurd (HI.out.1 hlb t htl) hbad
            have h2 := Hc.out
            rw [HS.out, h1, Bool.false_and] at h2
            exact h2.symm
          by_cases hx1 : its.getD t 0 < lo
          · have HY := HBAD.out (fun h => by have := h.1; omega)
            have HY' := hid HY
            clear HY
            generalize its.getD t 0 = x at *
            clear hcc
            go_wp2
            go_ret
            exact ⟨by rw [HY'.out]; rfl, HB.out.alloc HB.out.size _⟩
          · by_cases hx2 : hi < its.getD t 0
            · have HY := HBAD.out (fun h => by have := h.2.1; omega)
              have HY' := hid HY
              clear HY
              generalize its.getD t 0 = x at *
              clear hcc
              go_wp2
              go_ret
              exact ⟨by rw [HY'.out]; rfl, HB.out.alloc HB.out.size _⟩
            · cases t with
              | zero =>
                have HOK : Hid (ItOk lo hi its 0) := ⟨by omega, by omega, fun h => by omega⟩
                generalize its.getD 0 0 = x at *
                clear hcc
                go_wp2
                go_round
                case rel => exact ⟨1, by omega, by go_num, fun s hs => by obtain rfl : s = 0 := (by omega); exact HOK.out⟩
                case measure => simp [intOf]; omega
              | succ s =>
                have hcell2 : wr.cell? ⟨gi, s, none⟩ = some (.int .i64 (its.getD s 0)) := (HB.out.cell hgi).trans (hcc s (by omega))
                have es : ((s : Int) + 1 - 1) = (s : Int) := by omega
                clear hcc
                by_cases hx3 : its.getD (s + 1) 0 < its.getD s 0
                · have HY := HBAD.out (fun h => by have := h.2.2 (by omega); simp only [Nat.add_sub_cancel] at this; omega)
                  have HY' := hid HY
                  clear HY
                  generalize its.getD (s + 1) 0 = x at *
                  generalize its.getD s 0 = y at *
                  go_wp2
                  go_ret
                  exact ⟨by rw [HY'.out]; rfl, HB.out.alloc HB.out.size _⟩
                · have HOK : Hid (ItOk lo hi its (s + 1)) := ⟨by omega, by omega, fun _ => by simp only [Nat.add_sub_cancel]; omega⟩
                  generalize its.getD (s + 1) 0 = x at *
                  generalize its.getD s 0 = y at *
                  go_wp2
                  go_round
                  case rel =>
                    refine ⟨s + 1 + 1, by omega, by go_num, fun r hr => ?_⟩
                    by_cases hrs : r < s + 1
                    · exact Ht.out r hrs
                    · have : r = s + 1 := by omega
                      subst this; exact HOK.out
                  case measure => simp [intOf]; omega
        · have HE : Hid ((L.drop (j + 1)).all (lvB lo hi) = L.all (lvB lo hi)) := by
            have h1 : lb = true := HI.out.2 (fun s hs => Ht.out s (by omega))
            have h2 := Hc.out
            rw [HS.out, h1, Bool.true_and] at h2
            exact h2
          go_wp2
          go_roundw
          case rel => exact ⟨j + 1, by omega, by go_num, HE, HBB.out.alloc HBB.out.size _⟩
          case measure => simp [intOf]; omega
    · have HE : Hid (L.all (lvB lo hi) = true) := by
        have := Hc.out
        rw [List.drop_eq_nil_of_le (by rw [HN.out]; omega)] at this
        exact this.symm
      go_wp2
      go_ret
      exact ⟨by rw [HE.out]; rfl, hb⟩

theorem wsum_dropT : ∀ (L : List Lvl) (j : Nat), 2 ^ j * wsum (L.drop j) ≤ wsum L
  | [], j => by simp [wsum]
  | l :: L, 0 => by simp
  | l :: L, j + 1 => by
    have := wsum_dropT L j
    rw [List.drop_succ_cons, Nat.pow_succ, wsum, Nat.mul_comm (2 ^ j) 2, Nat.mul_assoc]
    omega
theorem timesB_step {k n : Nat} {L : List Lvl} {j : Nat} (h : j < L.length) : timesB k n j (L.drop j) = (decide ((L.getD j Lvl.none).times * 2 ^ j * capOf k (n - 1 - j) ≤ 2 ^ (j + 1) * wsum (L.drop (j + 1))) && timesB k n (j + 1) (L.drop (j + 1))) := by
  rw [lv_drop L j h, timesB]

attribute [local go_sem ↓] Go.wp_at_zero Go.wp_at_succ
set_option maxHeartbeats 1600000 in
theorem timesSound_any (k g cap : Nat) (lo hi : Int) (vs : List Value) (L : List Lvl) (w : World) (hL : LvAt F w g cap vs L) (hk : k ≤ 64) (hlen : L.length ≤ 29) (hws : wsum L ≤ 268435456) (htm : ∀ j, (L.getD j Lvl.none).times ≤ 549755813888) :
    Calls Tryz.prog 114 #[skVal k g L.length cap lo hi] w fun e w' => e = .returned (.bool (timesB k L.length 0 L)) ∧ Below w.heap.size w w' := by
  have HCO := hid (fun (w' : World) (hb : Below w.heap.size w w') => count_any (F := F) k g cap lo hi vs L w' (hL.below hb) (by omega) (by omega))
  generalize hn : L.length = n at *
  have HN := hid hn
  have HLV := hid hL
  have HTM := hid htm
  clear hn hL htm
  go_enter Tryz.func114, Tryz.ntmps114
  go_wp2_with fail
  refine (HCO.out _ ((Below.refl _ _).alloc (Nat.le_refl _) _)).mono ?_
  rintro e w1 ⟨rfl, hb1⟩
  obtain ⟨b0, b1, b2, b3⟩ := box4 hb1
  have HB1 := hid hb1
  clear hb1
  go_wp2_with fail
  go_loopw [3, 4, 12] (fun sa sp si wr => ∃ j A : Nat, j ≤ n ∧ si = .int .i64 j ∧ sp = .int .i64 ((2 ^ j : Nat) : Int) ∧ sa = .int .i64 (A : Int) ∧ Hid (A = 2 ^ j * wsum (L.drop j)) ∧ Hid (timesB k n j (L.drop j) = timesB k n 0 L) ∧ Below (w.alloc (.cells #[.int .i64 (k : Int), .slice (some ⟨g, 0, none⟩) n cap, .int .i64 lo, .int .i64 hi] 64)).heap.size (w.alloc (.cells #[.int .i64 (k : Int), .slice (some ⟨g, 0, none⟩) n cap, .int .i64 lo, .int .i64 hi] 64)) wr) (fun _ _ si _ => n - (intOf si).toNat)
  case atStart => exact ⟨0, wsum L, Nat.zero_le _, rfl, rfl, rfl, by simp [Hid], rfl, HB1.out⟩
  case round =>
    obtain ⟨j, A, hj, rfl, rfl, rfl, HA, Hc, hbb⟩ := hrel
    clear b0 b1 b2 b3 HB1
    obtain ⟨b0, b1, b2, b3⟩ := box4 hbb
    have hb : Below w.heap.size w wr := ((Below.refl _ _).alloc (Nat.le_refl _) _).trans (hbb.mono (by simp))
    have hwz : w.heap.size < wr.heap.size := by have := hbb.size; simp at this; omega
    have HBB := hid hbb
    clear hbb
    by_cases hlt : j < n
    · have hlt' : j < L.length := by rw [HN.out]; exact hlt
      obtain ⟨ao, cc, ev⟩ := HLV.out.itemsForm hlt'
      have c0 : wr.cell? ⟨g, j * 2, none⟩ = some (.slice ao (L.getD j Lvl.none).items.length cc) := (hb.cell (by exact HLV.out.lt)).trans ((HLV.out.cell0 hlt').trans (by rw [ev]))
      have c1 : wr.cell? ⟨g, j * 2 + 1, none⟩ = some (.int .i64 ((L.getD j Lvl.none).times : Int)) := (hb.cell (by exact HLV.out.lt)).trans (HLV.out.cell1 hlt')
      have HS := hid (timesB_step (k := k) (n := n) hlt')
      have hAw := wsum_dropT L j
      have hdr := wsum_drop L j hlt'
      have htj := HTM.out j
      have hpw : 2 ^ j ≤ 268435456 := Nat.pow_le_pow_right (n := 2) (by decide) (show j ≤ 28 by omega)
      have hp0 : 1 ≤ 2 ^ j := Nat.one_le_two_pow
      have HP : Hid (2 ^ (j + 1) = 2 ^ j * 2) := Nat.pow_succ ..
      obtain ⟨d, hd⟩ : ∃ d, n = j + 1 + d := ⟨n - (j + 1), by omega⟩
      have HD : Hid (n = j + 1 + d) := hd
      have hcap := fun w => capacityAt_any k g cap n j d lo hi w hk (by omega) HD.out
      have hcd := capOf_bd k d hk
      have hcd2 := capOf_ge k d
      rw [show n - 1 - j = d by omega] at HS
      rw [HP.out] at HS
      clear ev hd
      generalize htb : timesB k n (j + 1) (L.drop (j + 1)) = tb at *
      have HTB := hid htb
      generalize hRe : wsum (L.drop (j + 1)) = R at *
      have HRE := hid hRe
      clear htb hRe
      generalize (L.getD j Lvl.none).items.length = m at *
      generalize (L.getD j Lvl.none).times = tm at *
      generalize capOf k d = cd at *
      generalize 2 ^ j = p at *
      have hA2 : A = p * m + p * 2 * R := by
        have h1 := HA.out
        rw [hdr, Nat.mul_add, ← Nat.mul_assoc] at h1
        exact h1
      have hAb : A ≤ 268435456 := by have := HA.out; omega
      have HRN : Hid (2 ^ (j + 1) * R = p * 2 * R) := by rw [HP.out]; rfl
      generalize hQe : p * 2 * R = Q at *
      have hnn := mul_nn p m
      have e1 : (A : Int) - (p : Int) * (m : Int) = (Q : Int) := by rw [hA2, Int.natCast_add, Int.natCast_mul]; omega
      have hpm : (p : Int) * (m : Int) ≤ 268435456 := by
        have h3 : (A : Int) = (p : Int) * (m : Int) + (Q : Int) := by rw [hA2, Int.natCast_add, Int.natCast_mul]
        omega
      have hQb : Q ≤ 268435456 := by omega
      have HQ := hid hQe
      have HC := hid hcap
      have HB := hid hb
      clear hdr hAw HA hA2 hQe hcap hb
      by_cases h1 : Q < tm
      · have h1' : decide ((Q : Int) < (tm : Int)) = true := by simp; omega
        have HF : Hid (timesB k n 0 L = false) := by
          have h2 := Hc.out
          rw [HS.out] at h2
          have h3 : ¬ tm * p * cd ≤ Q := by
            intro h4
            have h5 : tm * 1 * 1 ≤ tm * p * cd := Nat.mul_le_mul (Nat.mul_le_mul (Nat.le_refl _) hp0) (by omega)
            omega
          rw [decide_eq_false h3, Bool.false_and] at h2
          exact h2.symm
        go_wp2
        go_ret
        exact ⟨by rw [HF.out]; rfl, HB.out.alloc HB.out.size _⟩
      · have h1' : decide ((Q : Int) < (tm : Int)) = false := by simp; omega
        have hq0 := mul_nn tm p
        have hq1 : (tm : Int) * (p : Int) ≤ 72057594037927936 := mul_bd (a := 268435456) (b := 268435456) (by omega) hpw
        have hz0 : 0 ≤ (tm : Int) * (p : Int) * (cd : Int) := Int.mul_nonneg hq0 (by omega)
        have hz1 : (tm : Int) * (p : Int) * (cd : Int) ≤ 4611686018427387904 := by
          rw [← Int.natCast_mul] at hq1 ⊢
          exact mul_bd (a := 72057594037927936) (b := 64) (by omega) hcd
        have hw1 : IntKind.i64.wrap ((tm : Int) * (p : Int)) = (tm : Int) * (p : Int) := by rw [IntKind.wrap_i64]; omega
        have hw2 : IntKind.i64.wrap ((tm : Int) * (p : Int) * (cd : Int)) = (tm : Int) * (p : Int) * (cd : Int) := by rw [IntKind.wrap_i64]; omega
        have HZ : Hid (((tm * p * cd : Nat) : Int) = (tm : Int) * (p : Int) * (cd : Int)) := by unfold Hid; rw [Int.natCast_mul, Int.natCast_mul]
        go_wp2_with fail
        go_region_with (first | (go_at_call 124; refine (HC.out _).mono ?_; rintro e w' ⟨rfl, hb'⟩; have f1 : w'.cell? ⟨wr.heap.size, 1, none⟩ = some (.int .i64 (tm : Int)) := (hb'.cell (by simp [World.drew])).trans (by simp [go_sem]); have HB3 := hid (below_alloc_drew hb'); clear hb'))
        all_goals
          by_cases h2 : (Q : Int) < (tm : Int) * (p : Int) * (cd : Int)
          · have HF : Hid (timesB k n 0 L = false) := by
              have h3 := Hc.out
              rw [HS.out, decide_eq_false (by have := HZ.out; omega), Bool.false_and] at h3
              exact h3.symm
            go_wp2
            go_ret
            exact ⟨by rw [HF.out]; rfl, HB.out.trans (HB3.out.mono HB.out.size)⟩
          · go_wp2
            go_roundw
            case rel =>
              refine ⟨j + 1, Q, by omega, by go_num, by rw [HP.out]; go_num, rfl, by unfold Hid; rw [HRE.out]; exact HRN.out.symm, ?_, HBB.out.trans (HB3.out.mono HBB.out.size)⟩
              have h3 := Hc.out
              rw [HS.out, decide_eq_true (by have := HZ.out; omega), Bool.true_and] at h3
              rw [← HTB.out] at h3
              exact h3
            case measure => simp [intOf]; omega
    · have HE : Hid (timesB k n 0 L = true) := by
        have := Hc.out
        rw [List.drop_eq_nil_of_le (by rw [HN.out]; omega)] at this
        exact this.symm
      go_wp2
      go_ret
      exact ⟨by rw [HE.out]; rfl, hb⟩

end Go.Proofs.YtklicjbpjigfdabGreat

/- DERIVED. The walks of shapeSound, endsSound and Sound. -/
namespace Go.Proofs.YtklicjbpjigfdabGreat
open Go.RowKit
variable {F : Nat → Prop}

theorem nsum_bd : ∀ (L : List Lvl), (∀ l ∈ L, l.items.length < 256) → nsum L ≤ 255 * L.length
  | [], _ => by simp [nsum]
  | l :: L, h => by
    have h1 := nsum_bd L (fun x hx => h x (by simp [hx]))
    have h2 := h l (by simp)
    rw [nsum, List.length_cons]; omega
theorem wsum_bd : ∀ (L : List Lvl), (∀ l ∈ L, l.items.length < 256) → wsum L + 255 ≤ 255 * 2 ^ L.length
  | [], _ => by simp [wsum]
  | l :: L, h => by
    have h1 := wsum_bd L (fun x hx => h x (by simp [hx]))
    have h2 := h l (by simp)
    rw [wsum, List.length_cons, Nat.pow_succ]; omega

set_option maxHeartbeats 1600000 in
theorem shapeSound_any (k g cap : Nat) (lo hi : Int) (vs : List Value) (L : List Lvl) (w : World) (hL : LvAt F w g cap vs L) (hk : k < 256) (hlen : L.length < 256) (hit : ∀ l ∈ L, l.items.length < 256) :
    Calls Tryz.prog 113 #[skVal k g L.length cap lo hi] w fun e w' => e = .returned (.bool (shapeB ⟨k, L, lo, hi⟩)) ∧ Below w.heap.size w w' := by
  have HIT := hid (fun (w' : World) (hb : Below w.heap.size w w') (h29 : L.length ≤ 29) => items_any (F := F) k g cap lo hi vs L w' (hL.below hb) (by omega) (by have := nsum_bd L hit; omega))
  have HCA := hid (fun (w' : World) (hk' : k ≤ 64) (h29 : L.length ≤ 29) => capacity_any k g cap L.length lo hi w' hk' (by omega))
  have HCO := hid (fun (w' : World) (hb : Below w.heap.size w w') (h29 : L.length ≤ 29) => count_any (F := F) k g cap lo hi vs L w' (hL.below hb) (by omega) (by have h1 := wsum_bd L hit; have h2 : 2 ^ L.length ≤ 2 ^ 29 := Nat.pow_le_pow_right (by decide) h29; omega))
  have HSH : Hid (shapeB ⟨k, L, lo, hi⟩ = decide (2 ≤ k ∧ k ≤ 64 ∧ 1 ≤ L.length ∧ L.length ≤ 29 ∧ (1 < L.length → 0 < (L.getD (L.length - 1) Lvl.none).items.length) ∧ nsum L ≤ capSum k L.length ∧ wsum L ≤ 268435456)) := rfl
  have hnb := nsum_bd L hit
  have HWB := hid (wsum_bd L hit)
  have hcb := capSum_bd k L.length
  generalize hn : L.length = n at *
  have HN := hid hn
  have HLV := hid hL
  generalize shapeB ⟨k, L, lo, hi⟩ = sh at *
  clear hn hL hit
  by_cases h1 : k < 2
  · have HF : Hid (sh = false) := by unfold Hid; rw [HSH.out]; exact decide_eq_false (fun h => by omega)
    go_enter Tryz.func113, Tryz.ntmps113
    go_wp2
    go_ret
    exact ⟨by rw [HF.out]; rfl, (Below.refl _ _).alloc (Nat.le_refl _) _⟩
  by_cases h2 : 64 < k
  · have HF : Hid (sh = false) := by unfold Hid; rw [HSH.out]; exact decide_eq_false (fun h => by omega)
    go_enter Tryz.func113, Tryz.ntmps113
    go_wp2
    go_ret
    exact ⟨by rw [HF.out]; rfl, (Below.refl _ _).alloc (Nat.le_refl _) _⟩
  by_cases h3 : n < 1
  · have HF : Hid (sh = false) := by unfold Hid; rw [HSH.out]; exact decide_eq_false (fun h => by omega)
    go_enter Tryz.func113, Tryz.ntmps113
    go_wp2
    go_ret
    exact ⟨by rw [HF.out]; rfl, (Below.refl _ _).alloc (Nat.le_refl _) _⟩
  by_cases h4 : 29 < n
  · have HF : Hid (sh = false) := by unfold Hid; rw [HSH.out]; exact decide_eq_false (fun h => by omega)
    go_enter Tryz.func113, Tryz.ntmps113
    go_wp2
    go_ret
    exact ⟨by rw [HF.out]; rfl, (Below.refl _ _).alloc (Nat.le_refl _) _⟩
  have hlt' : n - 1 < L.length := by rw [HN.out]; omega
  obtain ⟨ao, cc, ev⟩ := HLV.out.itemsForm hlt'
  have c0 : w.cell? ⟨g, (n - 1) * 2, none⟩ = some (.slice ao (L.getD (n - 1) Lvl.none).items.length cc) := (HLV.out.cell0 hlt').trans (by rw [ev])
  obtain ⟨d, hd⟩ : ∃ d, n = d + 1 := ⟨n - 1, by omega⟩
  have HD : Hid (n = d + 1) := hd
  have ed : (n : Int) - 1 = (d : Int) := by omega
  have hgz := HLV.out.lt
  rw [show n - 1 = d by omega] at c0 HSH
  generalize (L.getD d Lvl.none).items.length = m at *
  clear ev hd hlt'
  by_cases h5 : 1 < n ∧ m = 0
  · obtain ⟨h5, rfl⟩ := h5
    have HF : Hid (sh = false) := by unfold Hid; rw [HSH.out]; exact decide_eq_false (fun h => by have := h.2.2.2.2.1 (by omega); omega)
    go_enter Tryz.func113, Tryz.ntmps113
    go_wp2
    go_ret
    exact ⟨by rw [HF.out]; rfl, (Below.refl _ _).alloc (Nat.le_refl _) _⟩
  have HREST : Hid (∀ (a b : Nat), a = nsum L → b = wsum L → sh = decide (a ≤ capSum k n ∧ b ≤ 268435456)) := fun a b ha hb => by
    rw [HSH.out, ha, hb]
    refine decide_eq_decide.2 ⟨fun h => ⟨h.2.2.2.2.2.1, h.2.2.2.2.2.2⟩, fun h => ⟨by omega, by omega, by omega, by omega, fun h6 => by omega, h.1, h.2⟩⟩
  have htop : (1 < n ∧ ((m : Int) == 0) = false) ∨ ¬ 1 < n := by
    by_cases h6 : 1 < n
    · exact .inl ⟨h6, by simp; omega⟩
    · exact .inr h6
  rcases htop with ⟨h6, h7⟩ | h6
  all_goals
    go_enter Tryz.func113, Tryz.ntmps113
    go_wp2_with fail
    refine (HIT.out _ ((Below.refl _ _).alloc (Nat.le_refl _) _) (by omega)).mono ?_
    rintro e w1 ⟨rfl, hb1⟩
    obtain ⟨b0, b1, b2, b3⟩ := box4 hb1
    have hw1 : Below w.heap.size w w1 := ((Below.refl _ _).alloc (Nat.le_refl _) _).trans (hb1.mono (by simp))
    have hz1 : w.heap.size < w1.heap.size := by have := hb1.size; simp at this; omega
    have HW1 := hid hw1
    clear hb1 hw1
    go_wp2_with fail
    refine (HCA.out _ (by omega) (by omega)).mono ?_
    rintro e w2 ⟨rfl, hb2⟩
    have hc2 : capSum k n ≤ 4096 := by have := hcb (by omega); omega
    have HW2 := hid (HW1.out.trans (hb2.mono HW1.out.size))
    have d0 := cell_later hb2 b0
    have d1 := cell_later hb2 b1
    have d2 := cell_later hb2 b2
    have d3 := cell_later hb2 b3
    clear b0 b1 b2 b3 hb2
    have HRS := hid (HREST.out _ _ rfl rfl)
    by_cases h8 : capSum k n < nsum L
    · have HF : Hid (sh = false) := by unfold Hid; rw [HRS.out]; exact decide_eq_false (fun h => by omega)
      generalize capSum k n = cs at *
      generalize nsum L = ns at *
      go_wp2_with fail
      go_ret
      exact ⟨by rw [HF.out]; rfl, HW2.out⟩
    · have HF : Hid (sh = decide ((wsum L : Int) ≤ 268435456)) := by unfold Hid; rw [HRS.out]; refine decide_eq_decide.2 ⟨fun h => by omega, fun h => ⟨by omega, by omega⟩⟩
      generalize capSum k n = cs at *
      generalize nsum L = ns at *
      go_wp2_with fail
      refine (HCO.out _ HW2.out (by omega)).mono ?_
      rintro e w3 ⟨rfl, hb3⟩
      have HW3 := hid (HW2.out.trans (hb3.mono HW2.out.size))
      generalize wsum L = wsm at *
      clear hb3 d0 d1 d2 d3
      go_wp2_with fail
      go_ret
      exact ⟨by rw [HF.out]; rfl, HW3.out⟩

set_option maxHeartbeats 1000000 in
theorem endsSound_any (k g cap : Nat) (lo hi : Int) (vs : List Value) (L : List Lvl) (w : World) (hL : LvAt F w g cap vs L) (hlen : L.length ≤ 64) (hns : nsum L ≤ 1099511627776) :
    Calls Tryz.prog 116 #[skVal k g L.length cap lo hi] w fun e w' => e = .returned (.bool (endsOK ⟨k, L, lo, hi⟩)) ∧ Below w.heap.size w w' := by
  have HIT := hid (fun (w' : World) (hb : Below w.heap.size w w') => items_any (F := F) k g cap lo hi vs L w' (hL.below hb) (by omega) hns)
  have HTH := hid (fun (w' : World) (hb : Below w.heap.size w w') => wasThinned_any (F := F) k g cap lo hi vs L w' (hL.below hb) hlen)
  have HHA := hid (fun (x : Int) (w' : World) (hb : Below w.heap.size w w') => hasItem_any (F := F) k g cap lo hi x vs L w' (hL.below hb) hlen hns)
  have HEO : Hid (endsOK ⟨k, L, lo, hi⟩ = (decide (nsum L = 0) || thinnedB L || (hasIt lo L && hasIt hi L))) := rfl
  generalize endsOK ⟨k, L, lo, hi⟩ = eo at *
  generalize L.length = n at *
  clear hL
  go_enter Tryz.func116, Tryz.ntmps116
  go_wp2_with fail
  refine (HIT.out _ ((Below.refl _ _).alloc (Nat.le_refl _) _)).mono ?_
  rintro e w1 ⟨rfl, hb1⟩
  obtain ⟨b0, b1, b2, b3⟩ := box4 hb1
  have HW1 := hid (((Below.refl _ _).alloc (Nat.le_refl _) _).trans (hb1.mono (by simp)) : Below w.heap.size w w1)
  clear hb1
  by_cases h0 : nsum L = 0
  · have h0' : ((nsum L : Int) == 0) = true := by simp [h0]
    have HF : Hid (eo = true) := by unfold Hid; rw [HEO.out, h0]; simp
    clear h0
    go_wp2_with fail
    go_ret
    exact ⟨by rw [HF.out]; rfl, HW1.out⟩
  · have h0' : ((nsum L : Int) == 0) = false := by simp [h0]
    have HE2 : Hid (eo = (thinnedB L || (hasIt lo L && hasIt hi L))) := by unfold Hid; rw [HEO.out, decide_eq_false h0, Bool.false_or]
    clear h0
    go_wp2_with fail
    refine (HTH.out _ HW1.out).mono ?_
    rintro e w2 ⟨rfl, hb2⟩
    have HW2 := hid (HW1.out.trans (hb2.mono HW1.out.size))
    have d0 := cell_later hb2 b0
    have d1 := cell_later hb2 b1
    have d2 := cell_later hb2 b2
    have d3 := cell_later hb2 b3
    clear b0 b1 b2 b3 hb2
    cases ht : thinnedB L with
    | true =>
      have HF : Hid (eo = true) := by unfold Hid; rw [HE2.out, ht, Bool.true_or]
      go_wp2_with fail
      go_ret
      exact ⟨by rw [HF.out]; rfl, HW2.out⟩
    | false =>
      have HE3 : Hid (eo = (hasIt lo L && hasIt hi L)) := by unfold Hid; rw [HE2.out, ht, Bool.false_or]
      go_wp2_with fail
      refine (HHA.out lo _ HW2.out).mono ?_
      rintro e w3 ⟨rfl, hb3⟩
      have HW3 := hid (HW2.out.trans (hb3.mono HW2.out.size))
      have f0 := cell_later hb3 d0
      have f1 := cell_later hb3 d1
      have f2 := cell_later hb3 d2
      have f3 := cell_later hb3 d3
      clear d0 d1 d2 d3 hb3
      cases hl : hasIt lo L with
      | false =>
        have HF : Hid (eo = false) := by unfold Hid; rw [HE3.out, hl, Bool.false_and]
        go_wp2_with fail
        go_ret
        exact ⟨by rw [HF.out]; rfl, HW3.out⟩
      | true =>
        have HE4 : Hid (eo = hasIt hi L) := by unfold Hid; rw [HE3.out, hl, Bool.true_and]
        go_wp2_with fail
        refine (HHA.out hi _ HW3.out).mono ?_
        rintro e w4 ⟨rfl, hb4⟩
        have HW4 := hid (HW3.out.trans (hb4.mono HW3.out.size))
        clear f0 f1 f2 f3 hb4
        go_wp2_with fail
        go_ret
        exact ⟨by rw [HE4.out]; rfl, HW4.out⟩

end Go.Proofs.YtklicjbpjigfdabGreat

/- DERIVED. The walk of Sound. -/
namespace Go.Proofs.YtklicjbpjigfdabGreat
open Go.RowKit
variable {F : Nat → Prop}

/-- What shapeB says. -/
theorem shapeB_iff (s : Sk) : shapeB s = true ↔ (2 ≤ s.k ∧ s.k ≤ 64 ∧ 1 ≤ s.lv.length ∧ s.lv.length ≤ 29 ∧ (1 < s.lv.length → 0 < (s.lv.getD (s.lv.length - 1) Lvl.none).items.length) ∧ nsum s.lv ≤ capSum s.k s.lv.length ∧ wsum s.lv ≤ 268435456) := by
  unfold shapeB; exact decide_eq_true_iff

set_option maxHeartbeats 1000000 in
theorem sound_any (k g cap : Nat) (lo hi : Int) (vs : List Value) (L : List Lvl) (w : World) (hL : LvAt F w g cap vs L) (hk : k < 256) (hlen : L.length < 256) (hit : ∀ l ∈ L, l.items.length < 256) (htm : ∀ j, (L.getD j Lvl.none).times ≤ 549755813888) :
    Calls Tryz.prog 92 #[skVal k g L.length cap lo hi] w fun e w' => e = .returned (.bool (soundB ⟨k, L, lo, hi⟩)) ∧ Below w.heap.size w w' := by
  have HSB : Hid (soundB ⟨k, L, lo, hi⟩ = (shapeB ⟨k, L, lo, hi⟩ && (timesB k L.length 0 L && (L.all (lvB lo hi) && endsOK ⟨k, L, lo, hi⟩)))) := rfl
  have HSI := hid (shapeB_iff ⟨k, L, lo, hi⟩)
  have HC1 := hid (fun (w' : World) (hb : Below w.heap.size w w') => shapeSound_any (F := F) k g cap lo hi vs L w' (hL.below hb) hk hlen hit)
  have HC2 := hid (fun (h : shapeB ⟨k, L, lo, hi⟩ = true) (w' : World) (hb : Below w.heap.size w w') => timesSound_any (F := F) k g cap lo hi vs L w' (hL.below hb) ((shapeB_iff _).1 h).2.1 ((shapeB_iff _).1 h).2.2.2.1 ((shapeB_iff _).1 h).2.2.2.2.2.2 htm)
  have HC3 := hid (fun (h : shapeB ⟨k, L, lo, hi⟩ = true) (w' : World) (hb : Below w.heap.size w w') => itemsSound_any (F := F) k g cap lo hi vs L w' (hL.below hb) (by have := ((shapeB_iff _).1 h).2.2.2.1; simp only at this; omega) (by have h1 := nsum_le L; have := ((shapeB_iff _).1 h).2.2.2.2.2.2; simp only at this; omega))
  have HC4 := hid (fun (h : shapeB ⟨k, L, lo, hi⟩ = true) (w' : World) (hb : Below w.heap.size w w') => endsSound_any (F := F) k g cap lo hi vs L w' (hL.below hb) (by have := ((shapeB_iff _).1 h).2.2.2.1; simp only at this; omega) (by have h1 := nsum_le L; have := ((shapeB_iff _).1 h).2.2.2.2.2.2; simp only at this; omega))
  generalize soundB ⟨k, L, lo, hi⟩ = sb at *
  generalize shapeB ⟨k, L, lo, hi⟩ = s1 at *
  generalize endsOK ⟨k, L, lo, hi⟩ = s4 at *
  generalize timesB k L.length 0 L = s2 at *
  generalize L.all (lvB lo hi) = s3 at *
  generalize L.length = n at *
  clear hL HSI
  go_enter Tryz.func92, Tryz.ntmps92
  go_wp2_with fail
  refine (HC1.out _ ((Below.refl _ _).alloc (Nat.le_refl _) _)).mono ?_
  rintro e w1 ⟨rfl, hb1⟩
  obtain ⟨b0, b1, b2, b3⟩ := box4 hb1
  have HW1 := hid (((Below.refl _ _).alloc (Nat.le_refl _) _).trans (hb1.mono (by simp)) : Below w.heap.size w w1)
  clear hb1
  cases h1 : s1 with
  | false =>
    have HF : Hid (sb = false) := by unfold Hid; rw [HSB.out, h1, Bool.false_and]
    go_wp2_with fail
    go_ret
    exact ⟨by rw [HF.out]; rfl, HW1.out⟩
  | true =>
    have HS2 : Hid (sb = (s2 && (s3 && s4))) := by unfold Hid; rw [HSB.out, h1, Bool.true_and]
    have H1 := hid h1
    clear h1
    go_wp2_with fail
    refine (HC2.out H1.out _ HW1.out).mono ?_
    rintro e w2 ⟨rfl, hb2⟩
    have HW2 := hid (HW1.out.trans (hb2.mono HW1.out.size))
    have d0 := cell_later hb2 b0
    have d1 := cell_later hb2 b1
    have d2 := cell_later hb2 b2
    have d3 := cell_later hb2 b3
    clear b0 b1 b2 b3 hb2
    cases h2 : s2 with
    | false =>
      have HF : Hid (sb = false) := by unfold Hid; rw [HS2.out, h2, Bool.false_and]
      go_wp2_with fail
      go_ret
      exact ⟨by rw [HF.out]; rfl, HW2.out⟩
    | true =>
      have HS3 : Hid (sb = (s3 && s4)) := by unfold Hid; rw [HS2.out, h2, Bool.true_and]
      go_wp2_with fail
      refine (HC3.out H1.out _ HW2.out).mono ?_
      rintro e w3 ⟨rfl, hb3⟩
      have HW3 := hid (HW2.out.trans (hb3.mono HW2.out.size))
      have f0 := cell_later hb3 d0
      have f1 := cell_later hb3 d1
      have f2 := cell_later hb3 d2
      have f3 := cell_later hb3 d3
      clear d0 d1 d2 d3 hb3
      cases h3 : s3 with
      | false =>
        have HF : Hid (sb = false) := by unfold Hid; rw [HS3.out, h3, Bool.false_and]
        go_wp2_with fail
        go_ret
        exact ⟨by rw [HF.out]; rfl, HW3.out⟩
      | true =>
        have HS4 : Hid (sb = s4) := by unfold Hid; rw [HS3.out, h3, Bool.true_and]
        go_wp2_with fail
        refine (HC4.out H1.out _ HW3.out).mono ?_
        rintro e w4 ⟨rfl, hb4⟩
        have HW4 := hid (HW3.out.trans (hb4.mono HW3.out.size))
        clear f0 f1 f2 f3 hb4
        go_wp2_with fail
        go_ret
        exact ⟨by rw [HS4.out]; rfl, HW4.out⟩

end Go.Proofs.YtklicjbpjigfdabGreat
