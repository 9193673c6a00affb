/- DERIVED. The walks of the document's own Ledger, Rank, Quantile. -/
import Derived.Test.YtklicjbpjigfdabGreatQ20
import Derived.Test.YtklicjbpjigfdabGreatRankW
namespace Go.Proofs.YtklicjbpjigfdabGreat
open Go.RowKit
attribute [local go_sem ↓] Go.wp_at_zero Go.wp_at_succ
variable {G : Nat → Prop}

theorem nats_times (L : List Lvl) : nats (timesN L) = timesOf L := by simp [nats, timesN, timesOf]
theorem off_eq (L : List Lvl) : sumN (fun j => 2 ^ j * (timesN L).getD j 0) (timesN L).length = esum L := by rw [timesN_length, ← esum_sumN]
theorem spread_eq (L : List Lvl) : sumN (fun j => 4 ^ j * (timesN L).getD j 0) (timesN L).length = ssum L := by rw [timesN_length, ← ssum_sumN]

set_option maxHeartbeats 400000 in
theorem rledger_no (d : Nat) (A : Int) (D : Dk) (w : World) (h : RAt G w d D) (hs : hasB A D.sks.length = false) :
    Calls Tryz.prog 45 #[.pointer (some ⟨d, 0, none⟩), .int .i64 A] w fun e w' => e = .returned (.tuple #[.slice none 0 0, .int .i64 0, .int .i64 0, .int .i64 4]) ∧ w' = w := by
  obtain ⟨s, va, rs, h⟩ := h
  have HH := hid (rhas d A D s va rs _ h)
  rw [hs] at HH
  clear h
  go_enter Tryz.func45, Tryz.ntmps45
  go_wp2_with (go_at_call 63; refine HH.out.mono ?_; rintro e w' ⟨rfl, hw⟩; obtain rfl := hw.symm)
  exact bodyPost_ret (v := .tuple #[.slice none 0 0, .int .i64 0, .int .i64 0, .int .i64 4]) (by simp [results, Tryz.results45, go_sem]) rfl ⟨rfl, rfl⟩

set_option maxHeartbeats 2000000 in
set_option maxRecDepth 100000 in
theorem rledger_any (d i : Nat) (D : Dk) (w : World) (h : RAt G w d D) (hd : LInv D) (hi : i < D.sks.length) :
    Calls Tryz.prog 45 #[.pointer (some ⟨d, 0, none⟩), .int .i64 (i : Int)] w fun e w' => ∃ g m, m = (D.sks.getD i Hd.none).sk.lv.length ∧ e = .returned (.tuple #[.slice (some ⟨g, 0, none⟩) m m, .int .i64 (esum (D.sks.getD i Hd.none).sk.lv : Int), .int .i64 (ssum (D.sks.getD i Hd.none).sk.lv : Int), .int .i64 0]) ∧ w'.ownsRow w.heap.size 3 1 (.slice (some ⟨g, 0, none⟩) m m) m (ints (timesOf (D.sks.getD i Hd.none).sk.lv)) ∧ Below w.heap.size w w' := by
  obtain ⟨s, va, rs, h⟩ := h
  obtain ⟨i0, hi0, hz0, hz1, hz2⟩ := info_parts Tryz.infoInt
  have HH := hid (rhas d (i : Int) D s va rs _ h)
  rw [hasB_nat hi] at HH
  obtain ⟨g, c, rfl, hg, q0, q1, q2, q3, q4, q5, q6, qz⟩ := h.cells7 hi
  obtain ⟨c0, c1, c2, cz⟩ := blk3 h.blk
  have hdz := lt_of_blk' h.blk
  have hk := h.sk i hi
  have hok := (hd.inv.sk i hi).ok
  have hss := (hd.ok i hi).ssum hok
  have hes := esum_le (D.sks.getD i Hd.none).sk.lv
  have hl29 := hok.len
  obtain ⟨bo, bl, bc, tO, tl, tc, ko, kl, kc, e1, e2, e3, e4, e5⟩ := hk.forms
  have HT : Hid (Ints w (.slice tO tl tc) (nats (timesN (D.sks.getD i Hd.none).sk.lv))) := by rw [← e2]; exact hk.tms
  have HOF := hid (fun (w' : World) (hb : Below w.heap.size w w') => roff_any (D.sks.getD i Hd.none).sk.k (.slice bo bl bc) (.slice tO tl tc) (.slice ko kl kc) (rs.getD i RRef.none).lo (rs.getD i RRef.none).hi (D.sks.getD i Hd.none).sealed _ w' (HT.out.below hb) (by rw [timesN_length]; omega) (by rw [off_eq]; omega))
  have HSP := hid (fun (w' : World) (hb : Below w.heap.size w w') => rspread_any (D.sks.getD i Hd.none).sk.k (.slice bo bl bc) (.slice tO tl tc) (.slice ko kl kc) (rs.getD i RRef.none).lo (rs.getD i RRef.none).hi (D.sks.getD i Hd.none).sealed _ w' (HT.out.below hb) (by rw [timesN_length]; omega) (by rw [spread_eq]; omega))
  rw [off_eq] at HOF
  rw [spread_eq] at HSP
  have HTE : Hid (tl = (nats (timesN (D.sks.getD i Hd.none).sk.lv)).length) := by rw [Hid, nats_length, timesN_length]; exact e5
  have HNT : Hid (ints (nats (timesN (D.sks.getD i Hd.none).sk.lv)) = ints (timesOf (D.sks.getD i Hd.none).sk.lv)) := by rw [Hid, nats_times]
  rw [e1] at q1
  rw [e2] at q2
  rw [e3] at q6
  rw [← e5] at hl29 ⊢
  have hs2 : (i : Int) < (D.sks.length : Int) := by omega
  generalize nats (timesN (D.sks.getD i Hd.none).sk.lv) = ns at *
  generalize ints (timesOf (D.sks.getD i Hd.none).sk.lv) = tis at *
  generalize D.sks.length = n at *
  generalize (D.sks.getD i Hd.none).sk.k = k at *
  generalize (D.sks.getD i Hd.none).sealed = sl at *
  generalize (rs.getD i RRef.none).lo = lo at *
  generalize (rs.getD i RRef.none).hi = hh at *
  generalize esum (D.sks.getD i Hd.none).sk.lv = es at *
  generalize ssum (D.sks.getD i Hd.none).sk.lv = ss at *
  have HB1 := hid (below_new_al (w := w) (rsBlk k (.slice bo bl bc) (.slice tO tl tc) lo hh sl (.slice ko kl kc)))
  have HX1 := hid (heap_alloc_new w (rsBlk k (.slice bo bl bc) (.slice tO tl tc) lo hh sl (.slice ko kl kc)))
  clear h hk e1 e2 e3 e4 e5 hok
  go_enter Tryz.func45, Tryz.ntmps45
  go_upto_region 5 with (go_at_call 63; refine HH.out.mono ?_; rintro e w' ⟨rfl, hw⟩; obtain rfl := hw.symm)
  have hzz : w.heap.size < (w.alloc (rsBlk k (.slice bo bl bc) (.slice tO tl tc) lo hh sl (.slice ko kl kc))).heap.size := by simp
  generalize (w.alloc (rsBlk k (.slice bo bl bc) (.slice tO tl tc) lo hh sl (.slice ko kl kc))) = wA at *
  obtain ⟨k0, k1, k2, k3, k4, k5, k6, kz⟩ := blk7' HX1.out
  clear q0 q1 q2 q3 q4 q5 q6 qz c0 c1 c2 cz HH
  go_upto_region 7 with (at_make; refine wpList_make_full _ rfl _ _ 28 rfl w.heap.size 3 i0 (.int .i64 0) 1 Tryz.underlying28 hi0 hz0 hz1 _ _ _ _ tl rfl rfl (by rfl) (by rfl) (by rw [hz2]; omega) (by unfold maxLen; omega) (by omega) ?_; intro w7 hown7 hgrow7; have hb7 : Below wA.heap.size wA w7 := (Below.refl _ _).grown hgrow7 (Nat.le_refl _) (fun k h => by cases h); obtain ⟨w8, hrun, hown8, hgrow8⟩ := run_copy_ints w7 i0 hi0 hz1 hown7 ((HT.out.below HB1.out).below hb7) HTE.out; have HO8 := hid hown8; have HB8 := hid (HB1.out.trans ((hb7.grown hgrow8 hb7.size (fun b hb => by cases hb; exact Nat.le_refl _)).mono HB1.out.size)); have HX8 := hid ((hgrow8.block w.heap.size (by have := hb7.size; omega) (fun e => by injection e with e; omega)).trans ((hb7.block w.heap.size hzz).trans HX1.out)); clear k0 k1 k2 k3 k4 k5 k6 kz; obtain ⟨k0, k1, k2, k3, k4, k5, k6, kz⟩ := blk7' ((hb7.block w.heap.size hzz).trans HX1.out); clear hown7 hgrow7 hb7 hown8 hgrow8)
  clear k0 k1 k2 k3 k4 k5 k6 kz hrun
  obtain ⟨k0, k1, k2, k3, k4, k5, k6, kz⟩ := blk7' HX8.out
  have hzz8 := lt_of_blk' HX8.out
  generalize wA.heap.size = gA at *
  go_wp2_with fail
  refine (HOF.out _ HB8.out).mono ?_
  rintro e w9 ⟨rfl, hb9⟩
  have HB9 := hid (HB8.out.trans (hb9.mono HB8.out.size))
  have HX9 := hid ((hb9.block _ hzz8).trans HX8.out)
  have HO9 : Hid (w9.ownsRow w.heap.size 3 1 (.slice (some ⟨gA, 0, none⟩) tl tl) tl (ints ns)) := ownsRow_below HO8.out hb9 (fun _ e => ownsRow_lt HO8.out e)
  clear k0 k1 k2 k3 k4 k5 k6 kz hb9
  obtain ⟨k0, k1, k2, k3, k4, k5, k6, kz⟩ := blk7' HX9.out
  have hzz9 := lt_of_blk' HX9.out
  go_wp2_with fail
  refine (HSP.out _ HB9.out).mono ?_
  rintro e w10 ⟨rfl, hb10⟩
  have HB10 := hid (HB9.out.trans (hb10.mono HB9.out.size))
  have HO10 : Hid (w10.ownsRow w.heap.size 3 1 (.slice (some ⟨gA, 0, none⟩) tl tl) tl (ints ns)) := ownsRow_below HO9.out hb10 (fun _ e => ownsRow_lt HO9.out e)
  clear k0 k1 k2 k3 k4 k5 k6 kz hb10
  go_wp2_with fail
  exact bodyPost_ret (v := .tuple #[.slice (some ⟨gA, 0, none⟩) tl tl, .int .i64 (es : Int), .int .i64 (ss : Int), .int .i64 0]) (by simp [results, Tryz.results45, go_sem]) rfl ⟨gA, tl, rfl, rfl, by rw [← HNT.out]; exact HO10.out, HB10.out⟩

theorem btw_upto (q : Int) {bag : List (Int × Nat)} {L : List Lvl} (h : BagOf bag L) : btw (btwP false true 0 q) bag = usum q L := by
  rw [← h.usum q]
  have : btwP false true 0 q = fun x => decide (x ≤ q) := by funext x; simp [btwP]
  unfold btw
  rw [this]

set_option maxHeartbeats 1000000 in
set_option maxRecDepth 100000 in
theorem rrank_no (d : Nat) (A q : Int) (D : Dk) (w : World) (h : RAt G w d D) (hs : hasB A D.sks.length = false) :
    Calls Tryz.prog 47 #[.pointer (some ⟨d, 0, none⟩), .int .i64 A, .int .i64 q] w fun e w' => e = .returned (.tuple #[.agg #[.int .i64 0, .int .i64 0, .int .i64 0], .int .i64 4]) ∧ Below w.heap.size w w' := by
  obtain ⟨s, va, rs, h⟩ := h
  have HH := hid (rhas d A D s va rs _ (h.below (below_new_al (w := w) (.cells #[.int .i64 0, .int .i64 0, .int .i64 0] 106))))
  rw [hs] at HH
  clear h
  go_enter Tryz.func47, Tryz.ntmps47
  go_wp2_with (go_at_call 63; refine HH.out.mono ?_; rintro e w' ⟨rfl, hw⟩; obtain rfl := hw.symm)
  exact bodyPost_ret (v := .tuple #[.agg #[.int .i64 0, .int .i64 0, .int .i64 0], .int .i64 4]) (by simp [results, Tryz.results47, go_sem]) rfl ⟨rfl, below_new_al _⟩

set_option maxHeartbeats 4000000 in
set_option maxRecDepth 100000 in
theorem rrank_any (d i : Nat) (q : Int) (D : Dk) (w : World) (h : RAt G w d D) (hd : LInv D) (hi : i < D.sks.length) :
    Calls Tryz.prog 47 #[.pointer (some ⟨d, 0, none⟩), .int .i64 (i : Int), .int .i64 q] w fun e w' =>
      (e = if wsum (D.sks.getD i Hd.none).sk.lv = 0 then .returned (.tuple #[.agg #[.int .i64 0, .int .i64 0, .int .i64 0], .int .i64 8]) else .returned (.tuple #[.agg #[.int .i64 (rkLow q (D.sks.getD i Hd.none).sk.lv (D.sks.getD i Hd.none).sk.lo (D.sks.getD i Hd.none).sk.hi), .int .i64 (usum q (D.sks.getD i Hd.none).sk.lv : Int), .int .i64 (rkHigh q (D.sks.getD i Hd.none).sk.lv (D.sks.getD i Hd.none).sk.lo (D.sks.getD i Hd.none).sk.hi)], .int .i64 0])) ∧ Below w.heap.size w w' := by
  obtain ⟨s, va, rs, h⟩ := h
  have h1 := h.below (below_new_al (w := w) (.cells #[.int .i64 0, .int .i64 0, .int .i64 0] 106))
  have HH := hid (rhas d (i : Int) D s va rs _ h1)
  rw [hasB_nat hi] at HH
  obtain ⟨g, c, rfl, hg, q0, q1, q2, q3, q4, q5, q6, qz⟩ := h1.cells7 hi
  obtain ⟨c0, c1, c2, cz⟩ := blk3 h1.blk
  have hdz := lt_of_blk' h1.blk
  obtain ⟨hbl, hlow⟩ := h.bagLen hd hi
  have hk := h.sk i hi
  have hok := (hd.inv.sk i hi).ok
  have hcnt := hok.cnt
  have hss := (hd.ok i hi).ssum hok
  have hes := esum_le (D.sks.getD i Hd.none).sk.lv
  have hl29 := hok.len
  obtain ⟨bo, bl, bc, tO, tl, tc, ko, kl, kc, e1, e2, e3, e4, e5⟩ := hk.forms
  have hem := bag_empty hk.bof
  have hen := hk.ends
  rw [← e4] at hem
  have HT : Hid (Ints w (.slice tO tl tc) (nats (timesN (D.sks.getD i Hd.none).sk.lv))) := by rw [← e2]; exact hk.tms
  have HCO := hid (fun (w' : World) (hb : Below w.heap.size w w') => rcount_any (D.sks.getD i Hd.none).sk.k (.slice bo bl bc) (.slice tO tl tc) (.slice ko kl kc) (rs.getD i RRef.none).lo (rs.getD i RRef.none).hi (D.sks.getD i Hd.none).sealed (rs.getD i RRef.none).bag w' (by rw [← e1]; exact hk.bag.below hb) hbl hlow)
  have HOF := hid (fun (w' : World) (hb : Below w.heap.size w w') => roff_any (D.sks.getD i Hd.none).sk.k (.slice bo bl bc) (.slice tO tl tc) (.slice ko kl kc) (rs.getD i RRef.none).lo (rs.getD i RRef.none).hi (D.sks.getD i Hd.none).sealed _ w' (HT.out.below hb) (by rw [timesN_length]; omega) (by rw [off_eq]; omega))
  have HBT := hid (fun (w' : World) (hb : Below w.heap.size w w') => rbetween_any (D.sks.getD i Hd.none).sk.k (.slice bo bl bc) (.slice tO tl tc) (.slice ko kl kc) (rs.getD i RRef.none).lo (rs.getD i RRef.none).hi 0 q (D.sks.getD i Hd.none).sealed false true (rs.getD i RRef.none).bag w' (by rw [← e1]; exact hk.bag.below hb) hbl hlow)
  rw [off_eq] at HOF
  rw [bagW_of hk.bof] at HCO
  rw [btw_upto q hk.bof] at HBT
  have hub := usum_le q (D.sks.getD i Hd.none).sk.lv
  have HRL : Hid (rkLow q (D.sks.getD i Hd.none).sk.lv (D.sks.getD i Hd.none).sk.lo (D.sks.getD i Hd.none).sk.hi = if q < (D.sks.getD i Hd.none).sk.lo then 0 else if (D.sks.getD i Hd.none).sk.hi ≤ q then (wsum (D.sks.getD i Hd.none).sk.lv : Int) else if (usum q (D.sks.getD i Hd.none).sk.lv : Int) - (esum (D.sks.getD i Hd.none).sk.lv : Int) < 1 then 1 else (usum q (D.sks.getD i Hd.none).sk.lv : Int) - (esum (D.sks.getD i Hd.none).sk.lv : Int)) := rfl
  have HRH : Hid (rkHigh q (D.sks.getD i Hd.none).sk.lv (D.sks.getD i Hd.none).sk.lo (D.sks.getD i Hd.none).sk.hi = if q < (D.sks.getD i Hd.none).sk.lo then 0 else if (D.sks.getD i Hd.none).sk.hi ≤ q then (wsum (D.sks.getD i Hd.none).sk.lv : Int) else if (wsum (D.sks.getD i Hd.none).sk.lv : Int) - 1 < (usum q (D.sks.getD i Hd.none).sk.lv : Int) + (esum (D.sks.getD i Hd.none).sk.lv : Int) then (wsum (D.sks.getD i Hd.none).sk.lv : Int) - 1 else (usum q (D.sks.getD i Hd.none).sk.lv : Int) + (esum (D.sks.getD i Hd.none).sk.lv : Int)) := rfl
  rw [e1] at q1
  rw [e2] at q2
  rw [e3] at q6
  have hs2 : (i : Int) < (D.sks.length : Int) := by omega
  generalize rkLow q (D.sks.getD i Hd.none).sk.lv (D.sks.getD i Hd.none).sk.lo (D.sks.getD i Hd.none).sk.hi = RL at *
  generalize rkHigh q (D.sks.getD i Hd.none).sk.lv (D.sks.getD i Hd.none).sk.lo (D.sks.getD i Hd.none).sk.hi = RH at *
  generalize nats (timesN (D.sks.getD i Hd.none).sk.lv) = ns at *
  generalize D.sks.length = n at *
  generalize (D.sks.getD i Hd.none).sk.k = k at *
  generalize (D.sks.getD i Hd.none).sealed = sl at *
  generalize esum (D.sks.getD i Hd.none).sk.lv = es at *
  generalize ssum (D.sks.getD i Hd.none).sk.lv = ss at *
  generalize wsum (D.sks.getD i Hd.none).sk.lv = ws at *
  generalize usum q (D.sks.getD i Hd.none).sk.lv = us at *
  have HB0 := hid (below_new_al (w := w) (.cells #[.int .i64 0, .int .i64 0, .int .i64 0] 106))
  have HR0 := hid (heap_alloc_new w (.cells #[.int .i64 0, .int .i64 0, .int .i64 0] 106))
  by_cases hb : bl = 0
  · have hb' : ((bl : Int) == 0) = true := by simp [hb]
    rw [if_pos (hem.1 hb)]
    clear h h1 hk e1 e2 e3 e4 e5 hem hen hok q0 q2 q3 q4 q5 q6
    go_enter Tryz.func47, Tryz.ntmps47
    go_wp2_with (go_at_call 63; refine HH.out.mono ?_; rintro e w' ⟨rfl, hw⟩; obtain rfl := hw.symm)
    exact bodyPost_ret (v := .tuple #[.agg #[.int .i64 0, .int .i64 0, .int .i64 0], .int .i64 8]) (by simp [results, Tryz.results47, go_sem]) rfl ⟨rfl, below_new_al _⟩
  · have hb' : ((bl : Int) == 0) = false := by simp [hb]
    rw [if_neg (fun e => hb (hem.2 e))]
    obtain ⟨hlo, hhi⟩ := hen (fun e => hb (by rw [e4, e]; rfl))
    rw [hlo] at q3 HCO HOF HBT
    rw [hhi] at q4 HCO HOF HBT
    generalize (D.sks.getD i Hd.none).sk.lo = lo at *
    generalize (D.sks.getD i Hd.none).sk.hi = hh at *
    have hws : 0 < ws := Nat.pos_of_ne_zero (fun e => hb (hem.2 e))
    clear h h1 hk e1 e2 e3 e4 e5 hem hen hlo hhi hok
    have HBK := hid (HB0.out.trans (Below.mono (below_new_al (w := w.alloc (.cells #[.int .i64 0, .int .i64 0, .int .i64 0] 106)) (rsBlk k (.slice bo bl bc) (.slice tO tl tc) lo hh sl (.slice ko kl kc))) HB0.out.size))
    have HXK : Hid (((w.alloc (.cells #[.int .i64 0, .int .i64 0, .int .i64 0] 106)).alloc (rsBlk k (.slice bo bl bc) (.slice tO tl tc) lo hh sl (.slice ko kl kc))).heap[w.heap.size + 1]? = some (rsBlk k (.slice bo bl bc) (.slice tO tl tc) lo hh sl (.slice ko kl kc))) := by
      have := heap_alloc_new (w.alloc (.cells #[.int .i64 0, .int .i64 0, .int .i64 0] 106)) (rsBlk k (.slice bo bl bc) (.slice tO tl tc) lo hh sl (.slice ko kl kc))
      rw [show (w.alloc (.cells #[.int .i64 0, .int .i64 0, .int .i64 0] 106)).heap.size = w.heap.size + 1 by simp] at this
      exact this
    have HRK := hid ((Below.heap_alloc (w.alloc (.cells #[.int .i64 0, .int .i64 0, .int .i64 0] 106)) (rsBlk k (.slice bo bl bc) (.slice tO tl tc) lo hh sl (.slice ko kl kc)) w.heap.size (by simp)).trans HR0.out)
    go_enter Tryz.func47, Tryz.ntmps47
    go_upto_region 7 with (go_at_call 63; refine HH.out.mono ?_; rintro e w' ⟨rfl, hw⟩; obtain rfl := hw.symm)
    generalize ((w.alloc (.cells #[.int .i64 0, .int .i64 0, .int .i64 0] 106)).alloc (rsBlk k (.slice bo bl bc) (.slice tO tl tc) lo hh sl (.slice ko kl kc))) = wA at *
    clear q0 q1 q2 q3 q4 q5 q6 qz c0 c1 c2 cz HH hg hdz HB0 HR0
    obtain ⟨k0, k1, k2, k3, k4, k5, k6, kz⟩ := blk7' HXK.out
    have hza := lt_of_blk' HXK.out
    go_wp2_with fail
    refine (HCO.out _ HBK.out).mono ?_
    rintro e w2 ⟨rfl, hb2⟩
    have HB2 := hid (HBK.out.trans (hb2.mono HBK.out.size))
    have HX2 := hid ((hb2.block _ hza).trans HXK.out)
    have HR2 := hid ((hb2.block _ (lt_of_blk' HRK.out)).trans HRK.out)
    clear k0 k1 k2 k3 k4 k5 k6 kz hb2 HXK HRK HBK hza
    obtain ⟨k0, k1, k2, k3, k4, k5, k6, kz⟩ := blk7' HX2.out
    have hza := lt_of_blk' HX2.out
    go_wp2_with fail
    refine (HOF.out _ HB2.out).mono ?_
    rintro e w3 ⟨rfl, hb3⟩
    have HB3 := hid (HB2.out.trans (hb3.mono HB2.out.size))
    have HX3 := hid ((hb3.block _ hza).trans HX2.out)
    have HR3 := hid ((hb3.block _ (lt_of_blk' HR2.out)).trans HR2.out)
    clear k0 k1 k2 k3 k4 k5 k6 kz hb3 HX2 HR2 HB2 hza
    obtain ⟨k0, k1, k2, k3, k4, k5, k6, kz⟩ := blk7' HX3.out
    have hza := lt_of_blk' HX3.out
    go_wp2_with fail
    refine (HBT.out _ HB3.out).mono ?_
    rintro e w4 ⟨rfl, hb4⟩
    have HB4 := hid (HB3.out.trans (hb4.mono HB3.out.size))
    have HX4 := hid ((hb4.block _ hza).trans HX3.out)
    have HR4 := hid ((hb4.block _ (lt_of_blk' HR3.out)).trans HR3.out)
    clear k0 k1 k2 k3 k4 k5 k6 kz hb4 HX3 HR3 HB3 hza HCO HOF HBT
    obtain ⟨k0, k1, k2, k3, k4, k5, k6, kz⟩ := blk7' HX4.out
    have hza := lt_of_blk' HX4.out
    obtain ⟨r0, r1, r2, rz⟩ := blk3 HR4.out
    have hzr := lt_of_blk' HR4.out
    by_cases a1 : (us : Int) - (es : Int) < 1
    · by_cases a2 : (ws : Int) - 1 < (us : Int) + (es : Int)
      · by_cases a3 : q < lo
        · have HL : Hid (RL = 0) := by rw [Hid, HRL.out, if_pos a3]
          have HH2 : Hid (RH = 0) := by rw [Hid, HRH.out, if_pos a3]
          clear HRL HRH
          go_wp2_with fail
          exact bodyPost_ret (v := .tuple #[.agg #[.int .i64 (0), .int .i64 (us : Int), .int .i64 (0)], .int .i64 0]) (by simp [results, Tryz.results47, go_sem, r0, r1, r2]) rfl ⟨by rw [HL.out, HH2.out], below_set3 HB4.out (Nat.le_refl _) _ _ _⟩
        · by_cases a4 : hh ≤ q
          · have HL : Hid (RL = (ws : Int)) := by rw [Hid, HRL.out, if_neg a3, if_pos a4]
            have HH2 : Hid (RH = (ws : Int)) := by rw [Hid, HRH.out, if_neg a3, if_pos a4]
            clear HRL HRH
            go_wp2_with fail
            exact bodyPost_ret (v := .tuple #[.agg #[.int .i64 ((ws : Int)), .int .i64 (us : Int), .int .i64 ((ws : Int))], .int .i64 0]) (by simp [results, Tryz.results47, go_sem, r0, r1, r2]) rfl ⟨by rw [HL.out, HH2.out], below_set3 HB4.out (Nat.le_refl _) _ _ _⟩
          · have HL : Hid (RL = 1) := by rw [Hid, HRL.out, if_neg a3, if_neg a4, if_pos a1]
            have HH2 : Hid (RH = (ws : Int) - 1) := by rw [Hid, HRH.out, if_neg a3, if_neg a4, if_pos a2]
            clear HRL HRH
            go_wp2_with fail
            exact bodyPost_ret (v := .tuple #[.agg #[.int .i64 (1), .int .i64 (us : Int), .int .i64 ((ws : Int) - 1)], .int .i64 0]) (by simp [results, Tryz.results47, go_sem, r0, r1, r2]) rfl ⟨by rw [HL.out, HH2.out], below_set3 HB4.out (Nat.le_refl _) _ _ _⟩
      · by_cases a3 : q < lo
        · have HL : Hid (RL = 0) := by rw [Hid, HRL.out, if_pos a3]
          have HH2 : Hid (RH = 0) := by rw [Hid, HRH.out, if_pos a3]
          clear HRL HRH
          go_wp2_with fail
          exact bodyPost_ret (v := .tuple #[.agg #[.int .i64 (0), .int .i64 (us : Int), .int .i64 (0)], .int .i64 0]) (by simp [results, Tryz.results47, go_sem, r0, r1, r2]) rfl ⟨by rw [HL.out, HH2.out], below_set3 HB4.out (Nat.le_refl _) _ _ _⟩
        · by_cases a4 : hh ≤ q
          · have HL : Hid (RL = (ws : Int)) := by rw [Hid, HRL.out, if_neg a3, if_pos a4]
            have HH2 : Hid (RH = (ws : Int)) := by rw [Hid, HRH.out, if_neg a3, if_pos a4]
            clear HRL HRH
            go_wp2_with fail
            exact bodyPost_ret (v := .tuple #[.agg #[.int .i64 ((ws : Int)), .int .i64 (us : Int), .int .i64 ((ws : Int))], .int .i64 0]) (by simp [results, Tryz.results47, go_sem, r0, r1, r2]) rfl ⟨by rw [HL.out, HH2.out], below_set3 HB4.out (Nat.le_refl _) _ _ _⟩
          · have HL : Hid (RL = 1) := by rw [Hid, HRL.out, if_neg a3, if_neg a4, if_pos a1]
            have HH2 : Hid (RH = (us : Int) + (es : Int)) := by rw [Hid, HRH.out, if_neg a3, if_neg a4, if_neg a2]
            clear HRL HRH
            go_wp2_with fail
            exact bodyPost_ret (v := .tuple #[.agg #[.int .i64 (1), .int .i64 (us : Int), .int .i64 ((us : Int) + (es : Int))], .int .i64 0]) (by simp [results, Tryz.results47, go_sem, r0, r1, r2]) rfl ⟨by rw [HL.out, HH2.out], below_set3 HB4.out (Nat.le_refl _) _ _ _⟩
    · by_cases a2 : (ws : Int) - 1 < (us : Int) + (es : Int)
      · by_cases a3 : q < lo
        · have HL : Hid (RL = 0) := by rw [Hid, HRL.out, if_pos a3]
          have HH2 : Hid (RH = 0) := by rw [Hid, HRH.out, if_pos a3]
          clear HRL HRH
          go_wp2_with fail
          exact bodyPost_ret (v := .tuple #[.agg #[.int .i64 (0), .int .i64 (us : Int), .int .i64 (0)], .int .i64 0]) (by simp [results, Tryz.results47, go_sem, r0, r1, r2]) rfl ⟨by rw [HL.out, HH2.out], below_set3 HB4.out (Nat.le_refl _) _ _ _⟩
        · by_cases a4 : hh ≤ q
          · have HL : Hid (RL = (ws : Int)) := by rw [Hid, HRL.out, if_neg a3, if_pos a4]
            have HH2 : Hid (RH = (ws : Int)) := by rw [Hid, HRH.out, if_neg a3, if_pos a4]
            clear HRL HRH
            go_wp2_with fail
            exact bodyPost_ret (v := .tuple #[.agg #[.int .i64 ((ws : Int)), .int .i64 (us : Int), .int .i64 ((ws : Int))], .int .i64 0]) (by simp [results, Tryz.results47, go_sem, r0, r1, r2]) rfl ⟨by rw [HL.out, HH2.out], below_set3 HB4.out (Nat.le_refl _) _ _ _⟩
          · have HL : Hid (RL = (us : Int) - (es : Int)) := by rw [Hid, HRL.out, if_neg a3, if_neg a4, if_neg a1]
            have HH2 : Hid (RH = (ws : Int) - 1) := by rw [Hid, HRH.out, if_neg a3, if_neg a4, if_pos a2]
            clear HRL HRH
            go_wp2_with fail
            exact bodyPost_ret (v := .tuple #[.agg #[.int .i64 ((us : Int) - (es : Int)), .int .i64 (us : Int), .int .i64 ((ws : Int) - 1)], .int .i64 0]) (by simp [results, Tryz.results47, go_sem, r0, r1, r2]) rfl ⟨by rw [HL.out, HH2.out], below_set3 HB4.out (Nat.le_refl _) _ _ _⟩
      · by_cases a3 : q < lo
        · have HL : Hid (RL = 0) := by rw [Hid, HRL.out, if_pos a3]
          have HH2 : Hid (RH = 0) := by rw [Hid, HRH.out, if_pos a3]
          clear HRL HRH
          go_wp2_with fail
          exact bodyPost_ret (v := .tuple #[.agg #[.int .i64 (0), .int .i64 (us : Int), .int .i64 (0)], .int .i64 0]) (by simp [results, Tryz.results47, go_sem, r0, r1, r2]) rfl ⟨by rw [HL.out, HH2.out], below_set3 HB4.out (Nat.le_refl _) _ _ _⟩
        · by_cases a4 : hh ≤ q
          · have HL : Hid (RL = (ws : Int)) := by rw [Hid, HRL.out, if_neg a3, if_pos a4]
            have HH2 : Hid (RH = (ws : Int)) := by rw [Hid, HRH.out, if_neg a3, if_pos a4]
            clear HRL HRH
            go_wp2_with fail
            exact bodyPost_ret (v := .tuple #[.agg #[.int .i64 ((ws : Int)), .int .i64 (us : Int), .int .i64 ((ws : Int))], .int .i64 0]) (by simp [results, Tryz.results47, go_sem, r0, r1, r2]) rfl ⟨by rw [HL.out, HH2.out], below_set3 HB4.out (Nat.le_refl _) _ _ _⟩
          · have HL : Hid (RL = (us : Int) - (es : Int)) := by rw [Hid, HRL.out, if_neg a3, if_neg a4, if_neg a1]
            have HH2 : Hid (RH = (us : Int) + (es : Int)) := by rw [Hid, HRH.out, if_neg a3, if_neg a4, if_neg a2]
            clear HRL HRH
            go_wp2_with fail
            exact bodyPost_ret (v := .tuple #[.agg #[.int .i64 ((us : Int) - (es : Int)), .int .i64 (us : Int), .int .i64 ((us : Int) + (es : Int))], .int .i64 0]) (by simp [results, Tryz.results47, go_sem, r0, r1, r2]) rfl ⟨by rw [HL.out, HH2.out], below_set3 HB4.out (Nat.le_refl _) _ _ _⟩

end Go.Proofs.YtklicjbpjigfdabGreat
