/- DERIVED. The walk of the document's own sorted. -/
import Derived.Test.YtklicjbpjigfdabGreatQ16
import Derived.Test.YtklicjbpjigfdabGreatQ19
namespace Go.Proofs.YtklicjbpjigfdabGreat
open Go.RowKit
attribute [local go_sem ↓] Go.wp_at_zero Go.wp_at_succ

theorem made_rep (n : Nat) : (madeCells (Value.int .i64 0).cells (n * 1)).toList = ints (List.replicate n 0) := by
  rw [Nat.mul_one]
  show (madeCells #[Value.int .i64 0] n).toList = _
  rw [toList_madeCells_one]
  simp [ints]
/-- The places so far. -/
def rkN (bag : List (Int × Nat)) (h t : Nat) : List (Int × Nat) := ((bag.zipIdx.take t).filter fun a => a.1.2 == h).map fun a => (a.1.1, placeB bag a.2 a.1)
theorem rkN_all {bag : List (Int × Nat)} {h t : Nat} (ht : bag.length ≤ t) : rkN bag h t = rkOf bag h := by
  unfold rkN rkOf
  rw [List.take_of_length_le (by simpa using ht)]
theorem rkN_step {bag : List (Int × Nat)} {h t : Nat} (ht : t < bag.length) : rkN bag h (t + 1) = rkN bag h t ++ (if (bag.getD t (0, 0)).2 = h then [((bag.getD t (0, 0)).1, placeB bag t (bag.getD t (0, 0)))] else []) := by
  have hz : t < bag.zipIdx.length := by simpa using ht
  unfold rkN
  rw [List.take_succ_eq_append_getElem hz, List.filter_append, List.map_append]
  have e : bag.zipIdx[t] = (bag.getD t (0, 0), t) := by simp [List.getD, ht]
  rw [e]
  congr 1
  generalize bag.getD t (0, 0) = z
  by_cases hh : z.2 = h
  · simp [hh]
  · simp [hh]
theorem lay_snoc (R : List (Int × Nat)) (a : Int × Nat) (o : List Int) : lay (R ++ [a]) o = (lay R o).set a.2 a.1 := by simp [lay, List.foldl_append]
theorem lay_length : ∀ (R : List (Int × Nat)) (o : List Int), (lay R o).length = o.length
  | [], o => rfl
  | a :: R, o => by
    show (lay R (o.set a.2 a.1)).length = _
    rw [lay_length R]; simp
theorem ints_set (xs : List Int) (p : Nat) (x : Int) : (ints xs).set p (.int .i64 x) = ints (xs.set p x) := by simp [ints, List.map_set]

/-- As far as sorted has come. -/
structure SoSt (w wr : World) (bx : Obj) (g n : Nat) (xs : List Int) : Prop where
  own : wr.ownsRow w.heap.size 3 1 (.slice (some ⟨g, 0, none⟩) n n) n (ints xs)
  bel : Below w.heap.size w wr
  box : wr.heap[w.heap.size]? = some bx
theorem SoSt.later {w wr w' : World} {bx : Obj} {g n : Nat} {xs : List Int} (h : SoSt w wr bx g n xs) (hb : Below wr.heap.size wr w') : SoSt w w' bx g n xs :=
  ⟨ownsRow_below h.own hb (fun _ e => ownsRow_lt h.own e), h.bel.trans (hb.mono h.bel.size), (hb.block _ (lt_of_blk' h.box)).trans h.box⟩
theorem SoSt.set {w wr : World} {c : Array Value} {g n : Nat} {xs : List Int} (h : SoSt w wr (.cells c 71 (0, 0)) g n xs) (p : Nat) (x : Int) : SoSt w (wr.setCell ⟨g, p, none⟩ (.int .i64 x)) (.cells c 71 (0, 0)) g n (xs.set p x) := by
  have h1 := (h.own.stored p (.int .i64 x)).1
  rw [ints_set] at h1
  have hg : w.heap.size ≤ g := (h.own.lt g rfl).1
  exact ⟨h1, h.bel.setCell hg _, (Below.heap_setCell _ _ _ _ (Ne.symm (own_ne h.own h.box (by decide) g rfl))).trans h.box⟩

set_option maxHeartbeats 2000000 in
set_option maxRecDepth 100000 in
theorem rsorted_any (X : List Int) (k h : Nat) (vb vt vk : Value) (lo hi : Int) (sl : Bool) (bag : List (Int × Nat)) (L : List Lvl) (w : World) (hB : BagAt w vb bag) (hO : BagOf bag L) (hL : LvOk X L) (hl : bag.length ≤ 100000) :
    Calls Tryz.prog 71 #[rsVal k vb vt lo hi sl vk, .int .i64 (h : Int)] w fun e w' => ∃ g, e = .returned (.slice (some ⟨g, 0, none⟩) (L.getD h Lvl.none).items.length (L.getD h Lvl.none).items.length) ∧ w'.ownsRow w.heap.size 3 1 (.slice (some ⟨g, 0, none⟩) (L.getD h Lvl.none).items.length (L.getD h Lvl.none).items.length) (L.getD h Lvl.none).items.length (ints (L.getD h Lvl.none).items) ∧ Below w.heap.size w w' := by
  obtain ⟨bo, bcap, rfl, _, _⟩ := hB.form
  obtain ⟨i0, hi0, hz0, hz1, hz2⟩ := info_parts Tryz.infoInt
  have hlv : (L.getD h Lvl.none).items.length = (lvOf bag h).length := ((hO h).length_eq).symm
  have HSO := hid (lay_sorted hO hL h)
  have HB := hid hB
  have HON := hid (fun (w' : World) (hb : Below w.heap.size w w') => ron_any k h (.slice bo bag.length bcap) vt vk lo hi sl bag w' (hB.below hb) hl)
  have HPL := hid (fun (i : Nat) (w' : World) (hb : Below w.heap.size w w') (hi : i < bag.length) => rplace_any i (.slice bo bag.length bcap) bag w' (hB.below hb) hi hl)
  have HPT : Hid (∀ i, i < bag.length → (bag.getD i (0, 0)).2 = h → placeB bag i (bag.getD i (0, 0)) < (lvOf bag h).length) := fun i hi he => by
    have e : bag.getD i (0, 0) = bag[i] := by simp [List.getD, hi]
    rw [e] at he ⊢
    have e2 : bag[i] = (bag[i].1, h) := by rw [← he]
    rw [e2]
    exact place_lt hO hL (by rw [List.getElem?_eq_getElem hi, ← e2])
  have HST := hid (fun t (ht : t < bag.length) => rkN_step (h := h) ht)
  have HAL := hid (fun t (ht : bag.length ≤ t) => rkN_all (h := h) ht)
  have hln := lvOf_le bag h
  rw [hlv]
  generalize (L.getD h Lvl.none).items = its at *
  generalize (lvOf bag h).length = m at *
  generalize hne : bag.length = n at *
  have HN := hid hne
  clear hB hO hL hlv hne
  have HBX := hid (heap_alloc_new w (rsBlk k (.slice bo n bcap) vt lo hi sl vk))
  have HBB := hid (below_new_al (w := w) (rsBlk k (.slice bo n bcap) vt lo hi sl vk))
  obtain ⟨c0, c1, c2, c3, c4, c5, c6, cz⟩ := blk7' HBX.out
  go_enter Tryz.func71, Tryz.ntmps71
  go_wp2_with fail
  refine (HON.out _ HBB.out).mono ?_
  rintro e w1 ⟨rfl, hb1⟩
  have HB1 := hid (HBB.out.trans (hb1.mono HBB.out.size))
  have HX1 := hid ((hb1.block _ (lt_of_blk' HBX.out)).trans HBX.out)
  clear hb1 HON HBX HBB c0 c1 c2 c3 c4 c5 c6 cz
  go_wp2_with (at_make; refine wpList_make_full _ rfl _ _ 28 rfl w.heap.size 3 i0 (.int .i64 0) 1 Tryz.underlying28 hi0 hz0 hz1 _ _ _ _ m rfl rfl (by rfl) (by rfl) (by rw [hz2]; omega) (by unfold maxLen; omega) HB1.out.size ?_; intro w7 hown7 hgrow7; have hb7 : Below w1.heap.size w1 w7 := (Below.refl _ _).grown hgrow7 (Nat.le_refl _) (fun k h => by cases h); rw [made_rep] at hown7; have HS7 : Hid (SoSt w w7 (rsBlk k (.slice bo n bcap) vt lo hi sl vk) w1.heap.size m (List.replicate m 0)) := ⟨hown7, HB1.out.trans (hb7.mono HB1.out.size), (hb7.block _ (lt_of_blk' HX1.out)).trans HX1.out⟩; clear hown7 hgrow7 hb7)
  generalize w1.heap.size = g7 at *
  go_loopw [7] (fun si wr => ∃ j : Nat, j ≤ n ∧ si = .int .i64 j ∧ Hid (SoSt w wr (rsBlk k (.slice bo n bcap) vt lo hi sl vk) g7 m (lay (rkN bag h j) (List.replicate m 0)))) (fun si _ => n - (intOf si).toNat)
  case atStart => exact ⟨0, Nat.zero_le _, rfl, HS7⟩
  case round =>
    obtain ⟨j, hj, rfl, Hs⟩ := hrel
    clear HS7
    obtain ⟨c0, c1, c2, c3, c4, c5, c6, cz⟩ := blk7' Hs.out.box
    have hzz := lt_of_blk' Hs.out.box
    by_cases hlt : j < n
    · have hlt' : j < bag.length := by rw [HN.out]; exact hlt
      obtain ⟨g, rfl, hg, hx, hh⟩ := HB.out.cells hlt'
      have hx' := (Hs.out.bel.cell (p := ⟨g, j * 2, none⟩) hg).trans hx
      have hh' := (Hs.out.bel.cell (p := ⟨g, j * 2 + 1, none⟩) hg).trans hh
      have HSJ := hid (HST.out j hlt)
      have HPJ := hid (HPL.out j wr Hs.out.bel hlt)
      have HPK := hid (HPT.out j hlt)
      generalize placeB bag j (bag.getD j (0, 0)) = pl at *
      generalize bag.getD j (0, 0) = z at *
      obtain ⟨zx, zh⟩ := z
      simp only at hx' hh' HSJ HPK
      by_cases he : zh = h
      · have he' : ((zh : Int) == (h : Int)) = true := by simp [he]
        have hpl := HPK.out he
        have HF : Hid (rkN bag h (j + 1) = rkN bag h j ++ [(zx, pl)]) := by rw [Hid, HSJ.out, if_pos he]
        go_upto_region 7 with fail
        go_wp2_with fail
        refine HPJ.out.mono ?_
        rintro e w2 ⟨rfl, hb2⟩
        have HS2 := hid (Hs.out.later hb2)
        clear hb2 c0 c1 c2 c3 c4 c5 c6 cz
        obtain ⟨c0, c1, c2, c3, c4, c5, c6, cz⟩ := blk7' HS2.out.box
        have hx2 := (HS2.out.bel.cell (p := ⟨g, j * 2, none⟩) hg).trans hx
        have hzb := lt_of_blk' HS2.out.box
        have hgz : g7 < w2.heap.size := ownsRow_lt HS2.out.own rfl
        have f2 := own_free HS2.out.own pl
        obtain ⟨u, hu⟩ : ∃ u, (ints (lay (rkN bag h j) (List.replicate m 0)))[pl]? = some (.int .i64 u) := by
          have : pl < (lay (rkN bag h j) (List.replicate m 0)).length := by rw [lay_length]; simpa using hpl
          exact ⟨(lay (rkN bag h j) (List.replicate m 0))[pl], by simp [ints, List.getElem?_eq_getElem this]⟩
        have e2 := ownsRow_cell HS2.out.own hu
        have HS3 := hid (HS2.out.set pl zx)
        have hs1 : (0 : Int) ≤ (pl : Int) := by omega
        have hs2 : (pl : Int) < (m : Int) := by omega
        clear hx hh hx' hh' hu
        go_wp2_with fail
        go_roundw
        case rel => exact ⟨j + 1, by omega, by go_num, by rw [HF.out, lay_snoc]; exact HS3⟩
        case measure => simp [intOf]; omega
      · have he' : ((zh : Int) == (h : Int)) = false := by simp; omega
        have HF : Hid (rkN bag h (j + 1) = rkN bag h j) := by rw [Hid, HSJ.out, if_neg he, List.append_nil]
        clear hx hh
        go_wp2_with fail
        go_roundw
        case rel => exact ⟨j + 1, by omega, by go_num, by rw [HF.out]; exact Hs⟩
        case measure => simp [intOf]; omega
    · have HF : Hid (lay (rkN bag h j) (List.replicate m 0) = its) := by rw [Hid, HAL.out j (by omega)]; exact HSO.out
      go_wp2_with fail
      go_ret
      exact ⟨g7, rfl, by rw [← HF.out]; exact Hs.out.own, Hs.out.bel⟩

end Go.Proofs.YtklicjbpjigfdabGreat

/- DERIVED. The walks of the document's own Size, Ends, Level, Ledger. -/
namespace Go.Proofs.YtklicjbpjigfdabGreat
open Go.RowKit
attribute [local go_sem ↓] Go.wp_at_zero Go.wp_at_succ
variable {G : Nat → Prop}

theorem RIn.bagLen {w : World} {d : Nat} {D : Dk} {s : ByteArray} {va : Value} {rs : List RRef} (h : RIn G w d D s va rs) (hd : LInv D) {i : Nat} (hi : i < D.sks.length) : (rs.getD i RRef.none).bag.length ≤ 100000 ∧ Low (rs.getD i RRef.none).bag := by
  have hb := (h.sk i hi).bof
  have h1 := (hd.inv.sk i hi).set
  have h2 := capSum_monoK (hd.inv.sk i hi).ok.k2 (D.sks.getD i Hd.none).sk.lv.length
  have h3 := capSum_mono (k := 64) (hd.inv.sk i hi).ok.len
  rw [capSum_230] at h3
  have h4 := hb.nsum
  have h5 := (hd.inv.sk i hi).ok.len
  exact ⟨by omega, hb.low (by omega)⟩

set_option maxHeartbeats 400000 in
set_option maxRecDepth 100000 in
theorem rsize_no (d : Nat) (A : Int) (D : Dk) (w : World) (h : RAt G w d D) (hs : hasB A D.sks.length = false) :
    Calls Tryz.prog 38 #[.pointer (some ⟨d, 0, none⟩), .int .i64 A] w fun e w' => e = .returned (.tuple #[.agg #[.int .i64 0, .int .i64 0, .int .i64 0, .int .i64 0], .int .i64 4]) ∧ Below w.heap.size w w' := by
  obtain ⟨s, va, rs, h⟩ := h
  have HH := hid (rhas d A D s va rs _ (h.below (below_new_al (w := w) (.cells #[.int .i64 0, .int .i64 0, .int .i64 0, .int .i64 0] 84))))
  rw [hs] at HH
  clear h
  go_enter Tryz.func38, Tryz.ntmps38
  go_wp2_with (go_at_call 63; refine HH.out.mono ?_; rintro e w' ⟨rfl, hw⟩; obtain rfl := hw.symm)
  exact bodyPost_ret (v := .tuple #[.agg #[.int .i64 0, .int .i64 0, .int .i64 0, .int .i64 0], .int .i64 4]) (by simp [results, Tryz.results38, go_sem]) rfl ⟨rfl, below_new_al _⟩

set_option maxHeartbeats 1000000 in
set_option maxRecDepth 100000 in
theorem rsize_any (d i : Nat) (D : Dk) (w : World) (h : RAt G w d D) (hd : LInv D) (hi : i < D.sks.length) :
    Calls Tryz.prog 38 #[.pointer (some ⟨d, 0, none⟩), .int .i64 (i : Int)] w fun e w' => e = .returned (.tuple #[.agg #[.int .i64 ((D.sks.getD i Hd.none).sk.k : Int), .int .i64 (wsum (D.sks.getD i Hd.none).sk.lv : Int), .int .i64 (nsum (D.sks.getD i Hd.none).sk.lv : Int), .int .i64 ((D.sks.getD i Hd.none).sk.lv.length : Int)], .int .i64 0]) ∧ Below w.heap.size w w' := by
  obtain ⟨s, va, rs, h⟩ := h
  have h1 := h.below (below_new_al (w := w) (.cells #[.int .i64 0, .int .i64 0, .int .i64 0, .int .i64 0] 84))
  have HH := hid (rhas d (i : Int) D s va rs _ h1)
  rw [hasB_nat hi] at HH
  obtain ⟨g, c, rfl, hg, q0, q1, q2, q3, q4, q5, q6, qz⟩ := h1.cells7 hi
  obtain ⟨c0, c1, c2, cz⟩ := blk3 h1.blk
  have hdz := lt_of_blk' h1.blk
  obtain ⟨hbl, hlow⟩ := h.bagLen hd hi
  have hk := h1.sk i hi
  obtain ⟨bo, bl, bc, tO, tl, tc, ko, kl, kc, e1, e2, e3, e4, e5⟩ := hk.forms
  rw [e1] at q1
  rw [e2] at q2
  rw [e3] at q6
  have hw1 := bagW_of hk.bof
  have hn1 := hk.bof.nsum
  have HCO := hid (fun (w' : World) (hb : Below (w.alloc (.cells #[.int .i64 0, .int .i64 0, .int .i64 0, .int .i64 0] 84)).heap.size (w.alloc (.cells #[.int .i64 0, .int .i64 0, .int .i64 0, .int .i64 0] 84)) w') => rcount_any (D.sks.getD i Hd.none).sk.k (.slice bo bl bc) (.slice tO tl tc) (.slice ko kl kc) (rs.getD i RRef.none).lo (rs.getD i RRef.none).hi (D.sks.getD i Hd.none).sealed (rs.getD i RRef.none).bag w' (by rw [← e1]; exact hk.bag.below hb) hbl hlow)
  rw [hw1] at HCO
  rw [← hn1, ← e4, ← e5]
  have hs2 : (i : Int) < (D.sks.length : Int) := by omega
  generalize D.sks.length = n at *
  generalize (D.sks.getD i Hd.none).sk.k = k at *
  generalize wsum (D.sks.getD i Hd.none).sk.lv = ws at *
  generalize (D.sks.getD i Hd.none).sealed = sl at *
  generalize (rs.getD i RRef.none).lo = lo at *
  generalize (rs.getD i RRef.none).hi = hh at *
  have HR := hid (heap_alloc_new w (.cells #[.int .i64 0, .int .i64 0, .int .i64 0, .int .i64 0] 84))
  have HB := hid (below_new_al (w := w) (.cells #[.int .i64 0, .int .i64 0, .int .i64 0, .int .i64 0] 84))
  have HB2 := hid (below_new_al (w := w.alloc (.cells #[.int .i64 0, .int .i64 0, .int .i64 0, .int .i64 0] 84)) (rsBlk k (.slice bo bl bc) (.slice tO tl tc) lo hh sl (.slice ko kl kc)))
  have HK := hid (heap_alloc_new (w.alloc (.cells #[.int .i64 0, .int .i64 0, .int .i64 0, .int .i64 0] 84)) (rsBlk k (.slice bo bl bc) (.slice tO tl tc) lo hh sl (.slice ko kl kc)))
  clear h h1 hk e1 e2 e3 e4 e5 hw1 hn1 hbl hlow
  go_enter Tryz.func38, Tryz.ntmps38
  go_wp2_with (go_at_call 63; refine HH.out.mono ?_; rintro e w' ⟨rfl, hw⟩; obtain rfl := hw.symm)
  refine (HCO.out _ HB2.out).mono ?_
  rintro e w2 ⟨rfl, hb2⟩
  have hr2 := (hb2.block w.heap.size (by simp; omega)).trans ((Below.heap_alloc _ _ w.heap.size (by simp)).trans HR.out)
  have hk2 : w2.heap[w.heap.size + 1]? = some (rsBlk k (.slice bo bl bc) (.slice tO tl tc) lo hh sl (.slice ko kl kc)) := by have := (hb2.block _ (by simp)).trans HK.out; simpa using this
  have HB3 := hid (HB.out.trans ((HB2.out.trans (hb2.mono HB2.out.size)).mono HB.out.size))
  obtain ⟨r0, r1, r2, r3, rz⟩ := blk4 hr2
  obtain ⟨k0, k1, k2, k3, k4, k5, k6, kz⟩ := blk7' hk2
  have hrz := lt_of_blk' hr2
  have hkz := lt_of_blk' hk2
  clear hb2 hr2 hk2 q0 q1 q2 q3 q4 q5 q6 qz c0 c1 c2 cz
  go_wp2_with fail
  refine bodyPost_ret (v := .tuple #[.agg #[.int .i64 (k : Int), .int .i64 (ws : Int), .int .i64 (bl : Int), .int .i64 (tl : Int)], .int .i64 0]) (by simp [results, Tryz.results38, go_sem, r0, r1, r2, r3]) rfl ⟨rfl, below_set4 HB3.out (Nat.le_refl _) _ _ _ _⟩

set_option maxHeartbeats 400000 in
theorem rends_no (d : Nat) (A : Int) (D : Dk) (w : World) (h : RAt G w d D) (hs : hasB A D.sks.length = false) :
    Calls Tryz.prog 40 #[.pointer (some ⟨d, 0, none⟩), .int .i64 A] w fun e w' => e = .returned (.tuple #[.int .i64 0, .int .i64 0, .int .i64 4]) ∧ w' = w := by
  obtain ⟨s, va, rs, h⟩ := h
  have HH := hid (rhas d A D s va rs _ h)
  rw [hs] at HH
  clear h
  go_enter Tryz.func40, Tryz.ntmps40
  go_wp2_with (go_at_call 63; refine HH.out.mono ?_; rintro e w' ⟨rfl, hw⟩; obtain rfl := hw.symm)
  go_ret3
  exact ⟨rfl, rfl⟩

set_option maxHeartbeats 1000000 in
theorem rends_any (d i : Nat) (D : Dk) (w : World) (h : RAt G w d D) (hi : i < D.sks.length) :
    Calls Tryz.prog 40 #[.pointer (some ⟨d, 0, none⟩), .int .i64 (i : Int)] w fun e w' => e = .returned (if wsum (D.sks.getD i Hd.none).sk.lv = 0 then .tuple #[.int .i64 0, .int .i64 0, .int .i64 8] else .tuple #[.int .i64 (D.sks.getD i Hd.none).sk.lo, .int .i64 (D.sks.getD i Hd.none).sk.hi, .int .i64 0]) ∧ Below w.heap.size w w' := by
  obtain ⟨s, va, rs, h⟩ := h
  have HH := hid (rhas d (i : Int) D s va rs _ h)
  rw [hasB_nat hi] at HH
  obtain ⟨g, c, rfl, hg, q0, q1, q2, q3, q4, q5, q6, qz⟩ := h.cells7 hi
  obtain ⟨c0, c1, c2, cz⟩ := blk3 h.blk
  have hdz := lt_of_blk' h.blk
  have hk := h.sk i hi
  obtain ⟨bo, bl, bc, tO, tl, tc, ko, kl, kc, e1, e2, e3, e4, e5⟩ := hk.forms
  rw [e1] at q1
  have hem := bag_empty hk.bof
  have hen := hk.ends
  rw [← e4] at hem
  have hs2 : (i : Int) < (D.sks.length : Int) := by omega
  generalize D.sks.length = n at *
  by_cases hb : bl = 0
  · have hb' : ((bl : Int) == 0) = true := by simp [hb]
    rw [if_pos (hem.1 hb)]
    clear h hk e1 e2 e3 e4 e5 q0 q2 q3 q4 q5 q6 hem hen
    go_enter Tryz.func40, Tryz.ntmps40
    go_wp2_with (go_at_call 63; refine HH.out.mono ?_; rintro e w' ⟨rfl, hw⟩; obtain rfl := hw.symm)
    go_ret3
    exact ⟨rfl, Below.refl _ _⟩
  · have hb' : ((bl : Int) == 0) = false := by simp [hb]
    rw [if_neg (fun e => hb (hem.2 e))]
    obtain ⟨hlo, hhi⟩ := hen (fun e => hb (by rw [e4, e]; rfl))
    rw [hlo] at q3
    rw [hhi] at q4
    generalize (D.sks.getD i Hd.none).sk.lo = lo at *
    generalize (D.sks.getD i Hd.none).sk.hi = hh at *
    clear h hk e1 e2 e3 e4 e5 q0 q2 q5 q6 hem hen hlo hhi
    go_enter Tryz.func40, Tryz.ntmps40
    go_wp2_with (go_at_call 63; refine HH.out.mono ?_; rintro e w' ⟨rfl, hw⟩; obtain rfl := hw.symm)
    go_quiet (fail)
    go_wp2_with fail
    go_ret3
    exact ⟨rfl, below_drewN (Below.refl _ _) _⟩

set_option maxHeartbeats 400000 in
theorem rlevel_no (d : Nat) (A B : Int) (D : Dk) (w : World) (h : RAt G w d D) (hs : hasB A D.sks.length = false) :
    Calls Tryz.prog 42 #[.pointer (some ⟨d, 0, none⟩), .int .i64 A, .int .i64 B] w fun e w' => e = .returned (.tuple #[.slice none 0 0, .int .i64 4]) ∧ w' = w := by
  obtain ⟨s, va, rs, h⟩ := h
  have HH := hid (rhas d A D s va rs _ h)
  rw [hs] at HH
  clear h
  go_enter Tryz.func42, Tryz.ntmps42
  go_wp2_with (go_at_call 63; refine HH.out.mono ?_; rintro e w' ⟨rfl, hw⟩; obtain rfl := hw.symm)
  go_ret2
  exact ⟨rfl, rfl⟩

set_option maxHeartbeats 1000000 in
theorem rlevel_arg (d i : Nat) (B : Int) (D : Dk) (w : World) (h : RAt G w d D) (hi : i < D.sks.length) (hno : B < 0 ∨ ((D.sks.getD i Hd.none).sk.lv.length : Int) ≤ B) :
    Calls Tryz.prog 42 #[.pointer (some ⟨d, 0, none⟩), .int .i64 (i : Int), .int .i64 B] w fun e w' => e = .returned (.tuple #[.slice none 0 0, .int .i64 1]) ∧ w' = w := by
  obtain ⟨s, va, rs, h⟩ := h
  have HH := hid (rhas d (i : Int) D s va rs _ h)
  rw [hasB_nat hi] at HH
  obtain ⟨g, c, rfl, hg, q0, q1, q2, q3, q4, q5, q6, qz⟩ := h.cells7 hi
  obtain ⟨c0, c1, c2, cz⟩ := blk3 h.blk
  have hdz := lt_of_blk' h.blk
  have hk := h.sk i hi
  obtain ⟨bo, bl, bc, tO, tl, tc, ko, kl, kc, e1, e2, e3, e4, e5⟩ := hk.forms
  rw [e2] at q2
  rw [← e5] at hno
  have hs2 : (i : Int) < (D.sks.length : Int) := by omega
  generalize D.sks.length = n at *
  clear h hk e1 e2 e3 e4 e5 q0 q1 q3 q4 q5 q6
  by_cases h1 : B < 0
  · go_enter Tryz.func42, Tryz.ntmps42
    go_wp2_with (go_at_call 63; refine HH.out.mono ?_; rintro e w' ⟨rfl, hw⟩; obtain rfl := hw.symm)
    go_ret2
    exact ⟨rfl, rfl⟩
  · have h2 : (tl : Int) ≤ B := hno.resolve_left h1
    go_enter Tryz.func42, Tryz.ntmps42
    go_wp2_with (go_at_call 63; refine HH.out.mono ?_; rintro e w' ⟨rfl, hw⟩; obtain rfl := hw.symm)
    go_ret2
    exact ⟨rfl, rfl⟩

set_option maxHeartbeats 1000000 in
theorem rlevel_any (d i j : Nat) (D : Dk) (w : World) (h : RAt G w d D) (hd : LInv D) (hi : i < D.sks.length) (hj : j < (D.sks.getD i Hd.none).sk.lv.length) :
    Calls Tryz.prog 42 #[.pointer (some ⟨d, 0, none⟩), .int .i64 (i : Int), .int .i64 (j : Int)] w fun e w' => ∃ g m, m = ((D.sks.getD i Hd.none).sk.lv.getD j Lvl.none).items.length ∧ e = .returned (.tuple #[.slice (some ⟨g, 0, none⟩) m m, .int .i64 0]) ∧ w'.ownsRow w.heap.size 3 1 (.slice (some ⟨g, 0, none⟩) m m) m (ints ((D.sks.getD i Hd.none).sk.lv.getD j Lvl.none).items) ∧ Below w.heap.size w w' := by
  obtain ⟨s, va, rs, h⟩ := h
  have HH := hid (rhas d (i : Int) D s va rs _ h)
  rw [hasB_nat hi] at HH
  obtain ⟨g, c, rfl, hg, q0, q1, q2, q3, q4, q5, q6, qz⟩ := h.cells7 hi
  obtain ⟨c0, c1, c2, cz⟩ := blk3 h.blk
  have hdz := lt_of_blk' h.blk
  have hk := h.sk i hi
  obtain ⟨hbl, hlow⟩ := h.bagLen hd hi
  obtain ⟨bo, bl, bc, tO, tl, tc, ko, kl, kc, e1, e2, e3, e4, e5⟩ := hk.forms
  have HSO := hid (rsorted_any _ (D.sks.getD i Hd.none).sk.k j (.slice bo bl bc) (.slice tO tl tc) (.slice ko kl kc) (rs.getD i RRef.none).lo (rs.getD i RRef.none).hi (D.sks.getD i Hd.none).sealed (rs.getD i RRef.none).bag (D.sks.getD i Hd.none).sk.lv w (by rw [← e1]; exact hk.bag) hk.bof (hd.ok i hi).srt hbl)
  rw [e1] at q1
  rw [e2] at q2
  rw [e3] at q6
  have hj2 : j < tl := by rw [e5]; exact hj
  have hs2 : (i : Int) < (D.sks.length : Int) := by omega
  generalize D.sks.length = n at *
  generalize ((D.sks.getD i Hd.none).sk.lv.getD j Lvl.none).items = its at *
  generalize (D.sks.getD i Hd.none).sk.k = k at *
  generalize (D.sks.getD i Hd.none).sealed = sl at *
  generalize (rs.getD i RRef.none).lo = lo at *
  generalize (rs.getD i RRef.none).hi = hh at *
  generalize hm : its.length = m at *
  have HM := hid hm
  clear h hk e1 e2 e3 e4 e5 hbl hlow hj hm
  go_enter Tryz.func42, Tryz.ntmps42
  go_wp2_with (go_at_call 63; refine HH.out.mono ?_; rintro e w' ⟨rfl, hw⟩; obtain rfl := hw.symm)
  refine HSO.out.mono ?_
  rintro e w2 ⟨g2, rfl, hown, hb2⟩
  have HOW := hid hown
  have HB2 := hid hb2
  clear hown hb2
  go_wp2_with fail
  go_ret2
  exact ⟨g2, m, rfl, rfl, HOW.out, HB2.out⟩

end Go.Proofs.YtklicjbpjigfdabGreat
