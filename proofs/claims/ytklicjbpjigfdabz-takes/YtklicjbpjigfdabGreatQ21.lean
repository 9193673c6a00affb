/- DERIVED. The walk of the document's own Add. -/
import Derived.Test.YtklicjbpjigfdabGreatEntR
import Derived.Test.YtklicjbpjigfdabGreatLawS
import Derived.Test.YtklicjbpjigfdabGreatLevelW
namespace Go.Proofs.YtklicjbpjigfdabGreat
open Go.RowKit
attribute [local go_sem ↓] Go.wp_at_zero Go.wp_at_succ
variable {G : Nat → Prop}

/-- The sketch of the number alone, as far as it is made. -/
structure AdSt (w wr : World) (k : Nat) (vb vt : Value) (x : Int) (acc : List (Int × Nat)) (m : Nat) : Prop where
  blk : wr.heap[w.heap.size]? = some (rsBlk k vb vt x x false (.slice none 0 0))
  own : wr.ownsRow w.heap.size 126 2 vb acc.length (itCells acc)
  ownT : wr.ownsRow w.heap.size 3 1 vt m (ints (List.replicate m 0))
  bel : Below w.heap.size w wr
theorem AdSt.first (w : World) (k : Nat) (x : Int) : AdSt w (w.alloc (rsBlk k (.slice none 0 0) (.slice none 0 0) x x false (.slice none 0 0))) k (.slice none 0 0) (.slice none 0 0) x [] 0 :=
  ⟨heap_alloc_new _ _, World.ownsRow_nil _ _ _ _, World.ownsRow_nil _ _ _ _, below_new_al _⟩
theorem AdSt.later {w wr w' : World} {k m : Nat} {vb vt : Value} {x : Int} {acc : List (Int × Nat)} (h : AdSt w wr k vb vt x acc m) (hb : Below wr.heap.size wr w') : AdSt w w' k vb vt x acc m :=
  ⟨(hb.block _ (lt_of_blk' h.blk)).trans h.blk, ownsRow_below h.own hb (fun _ e => ownsRow_lt h.own e), ownsRow_below h.ownT hb (fun _ e => ownsRow_lt h.ownT e), h.bel.trans (hb.mono h.bel.size)⟩
/-- An item more. -/
theorem AdSt.app {w wr w1 : World} {k m l : Nat} {vb vb' vt : Value} {x : Int} {acc acc' : List (Int × Nat)} {o : Obj} (h : AdSt w wr k vb vt x acc m) (hown : w1.ownsRow w.heap.size 126 2 vb' l (itCells acc')) (hl : l = acc'.length) (hg : (wr.alloc o).grownBy w1 vb.ownBlock) :
    AdSt w (w1.setCell ⟨w.heap.size, 1, none⟩ vb') k vb' vt x acc' m := by
  subst hl
  have h1 := h.later (below_new_al o)
  have hblk : w1.heap[w.heap.size]? = some (rsBlk k vb vt x x false (.slice none 0 0)) := grow_keep h1.own hg h1.blk (by decide)
  refine ⟨?_, ownsRow_block hown (fun g e => Below.heap_setCell _ _ _ _ (own_ne hown hblk (by decide) g e)), ?_, ?_⟩
  · have := blk_set (i := 1) vb' hblk
    simpa using this
  · have hT : w1.ownsRow w.heap.size 3 1 vt m (ints (List.replicate m 0)) := ownsRow_block h1.ownT (fun g e => by
      obtain ⟨c, hc⟩ := own_kind h1.ownT e
      rw [grow_keep h1.own hg hc (by decide), hc])
    exact ownsRow_block hT (fun g e => Below.heap_setCell _ _ _ _ (own_ne hT hblk (by decide) g e))
  · exact (h1.bel.grown hg h1.bel.size (fun k e => (h.own.lt _ e).1)).setCell (Nat.le_refl _) _
/-- A level more. -/
theorem AdSt.appT {w wr w1 : World} {k m : Nat} {vb vt vt' : Value} {x : Int} {acc : List (Int × Nat)} {o : Obj} (h : AdSt w wr k vb vt x acc m) (hown : w1.ownsRow w.heap.size 3 1 vt' (m + 1) (ints (List.replicate m 0) ++ [.int .i64 0])) (hg : (wr.alloc o).grownBy w1 vt.ownBlock) :
    AdSt w (w1.setCell ⟨w.heap.size, 2, none⟩ vt') k vb vt' x acc (m + 1) := by
  have h1 := h.later (below_new_al o)
  have hblk : w1.heap[w.heap.size]? = some (rsBlk k vb vt x x false (.slice none 0 0)) := grow_keep h1.ownT hg h1.blk (by decide)
  have hown' : w1.ownsRow w.heap.size 3 1 vt' (m + 1) (ints (List.replicate (m + 1) 0)) := by
    rw [List.replicate_succ', ← ints_snoc]; exact hown
  refine ⟨?_, ?_, ownsRow_block hown' (fun g e => Below.heap_setCell _ _ _ _ (own_ne hown' hblk (by decide) g e)), ?_⟩
  · have := blk_set (i := 2) vt' hblk
    simpa using this
  · have hB : w1.ownsRow w.heap.size 126 2 vb acc.length (itCells acc) := ownsRow_block h1.own (fun g e => by
      obtain ⟨c, hc⟩ := own_kind h1.own e
      rw [grow_keep h1.ownT hg hc (by decide), hc])
    exact ownsRow_block hB (fun g e => Below.heap_setCell _ _ _ _ (own_ne hB hblk (by decide) g e))
  · exact (h1.bel.grown hg h1.bel.size (fun k e => (h.ownT.lt _ e).1)).setCell (Nat.le_refl _) _
theorem AdSt.ownAl {w wr : World} {k m l : Nat} {vb vt : Value} {x : Int} {acc : List (Int × Nat)} (h : AdSt w wr k vb vt x acc m) (o : Obj) (hl : acc.length = l) : (wr.alloc o).ownsRow w.heap.size 126 2 vb l (itCells acc) := by
  subst hl; exact (h.later (below_new_al o)).own
theorem AdSt.ownTAl {w wr : World} {k m : Nat} {vb vt : Value} {x : Int} {acc : List (Int × Nat)} (h : AdSt w wr k vb vt x acc m) (o : Obj) : (wr.alloc o).ownsRow w.heap.size 3 1 vt m (ints (List.replicate m 0)) := (h.later (below_new_al o)).ownT
theorem rep_getD (n j : Nat) : (List.replicate n 0).getD j 0 = 0 := by
  simp only [List.getD, List.getElem?_replicate]
  split <;> rfl
theorem addB_zero (x : Int) (f h : Nat) : addB x f 0 h = [] := by cases f <;> simp [addB]
theorem bln_zero (f : Nat) : bln f 0 = 0 := by cases f <;> simp [bln]
theorem addB_step (x : Int) {f v h : Nat} (hv : 0 < v) : addB x (f + 1) v h = (if v % 2 = 1 then [(x, h)] else []) ++ addB x f (v / 2) (h + 1) := by rw [addB, if_pos hv]
theorem bln_step {f v : Nat} (hv : 0 < v) : bln (f + 1) v = 1 + bln f (v / 2) := by rw [bln, if_pos hv]
theorem nats_rep (m : Nat) : nats (List.replicate m 0) = List.replicate m 0 := by simp [nats]

set_option maxHeartbeats 400000 in
theorem radd_no (d : Nat) (A B C : Int) (D : Dk) (w : World) (h : RAt G w d D) (hs : hasB A D.sks.length = false) :
    Calls Tryz.prog 30 #[.pointer (some ⟨d, 0, none⟩), .int .i64 A, .int .i64 B, .int .i64 C] w fun e w' => e = .returned (.int .i64 4) ∧ w' = w := by
  obtain ⟨s, va, rs, h⟩ := h
  have HH := hid (rhas d A D s va rs _ h)
  rw [hs] at HH
  clear h
  go_enter Tryz.func30, Tryz.ntmps30
  go_wp2_with (go_at_call 63; refine HH.out.mono ?_; rintro e w' ⟨rfl, hw⟩; obtain rfl := hw.symm)
  go_ret
  exact ⟨rfl, rfl⟩

set_option maxHeartbeats 1000000 in
theorem radd_bad (d i : Nat) (B C c : Int) (D : Dk) (w : World) (h : RAt G w d D) (hi : i < D.sks.length) (hc : ((D.sks.getD i Hd.none).sealed = true ∧ c = 5) ∨ ((D.sks.getD i Hd.none).sealed = false ∧ ((C < 1 ∧ c = 1) ∨ (268435456 < C ∧ c = 6)))) :
    Calls Tryz.prog 30 #[.pointer (some ⟨d, 0, none⟩), .int .i64 (i : Int), .int .i64 B, .int .i64 C] w fun e w' => e = .returned (.int .i64 c) ∧ w' = w := by
  obtain ⟨s, va, rs, h⟩ := h
  have HH := hid (rhas d (i : Int) D s va rs _ h)
  rw [hasB_nat hi] at HH
  obtain ⟨g, c', rfl, hg, q0, q1, q2, q3, q4, q5, q6, qz⟩ := h.cells7 hi
  obtain ⟨c0, c1, c2, cz⟩ := blk3 h.blk
  have hdz := lt_of_blk' h.blk
  have hs2 : (i : Int) < (D.sks.length : Int) := by omega
  generalize D.sks.length = n at *
  clear h q0 q1 q2 q3 q4 q6
  rcases hc with ⟨hs, rfl⟩ | ⟨hs, ⟨h1, rfl⟩ | ⟨h1, rfl⟩⟩
  · rw [hs] at q5
    go_enter Tryz.func30, Tryz.ntmps30
    go_wp2_with (go_at_call 63; refine HH.out.mono ?_; rintro e w' ⟨rfl, hw⟩; obtain rfl := hw.symm)
    go_ret
    exact ⟨rfl, rfl⟩
  · rw [hs] at q5
    go_enter Tryz.func30, Tryz.ntmps30
    go_wp2_with (go_at_call 63; refine HH.out.mono ?_; rintro e w' ⟨rfl, hw⟩; obtain rfl := hw.symm)
    go_ret
    exact ⟨rfl, rfl⟩
  · rw [hs] at q5
    go_enter Tryz.func30, Tryz.ntmps30
    go_wp2_with (go_at_call 63; refine HH.out.mono ?_; rintro e w' ⟨rfl, hw⟩; obtain rfl := hw.symm)
    go_ret
    exact ⟨rfl, rfl⟩

theorem EnPost.ret {d i kb : Nat} {lo' hi' : Int} {wB : Nat} {LM : List Lvl} {D : Dk} {w0 : World} {e : Ending} {w' : World} (h : EnPost G d i kb lo' hi' wB LM D w0 e w') : ∃ c, e = .returned (.int .i64 c) := by
  obtain ⟨c, _, he, _⟩ := h
  exact ⟨c, he⟩

set_option maxHeartbeats 4000000 in
set_option maxRecDepth 100000 in
theorem radd_in (d i wt : Nat) (x : Int) (D : Dk) (w : World) (h : RAt G w d D) (hd : LInv D) (hi : i < D.sks.length) (hs : (D.sks.getD i Hd.none).sealed = false) (h1 : 1 ≤ wt) (h2 : wt ≤ 268435456) :
    Calls Tryz.prog 30 #[.pointer (some ⟨d, 0, none⟩), .int .i64 (i : Int), .int .i64 x, .int .i64 (wt : Int)] w fun e w' => w.heap.size ≤ w'.heap.size ∧ EnPost G d i (D.sks.getD i Hd.none).sk.k (addLo (D.sks.getD i Hd.none) x) (addHi (D.sks.getD i Hd.none) x) wt (addL (D.sks.getD i Hd.none) x wt) D w e w' := by
  obtain ⟨s, va, rs, h⟩ := h
  obtain ⟨i1, hi1, hy0, hy1, hy2⟩ := info_parts Tryz.infoItem
  obtain ⟨i0, hi0, hz0, hz1, hz2⟩ := info_parts Tryz.infoInt
  have HH := hid (rhas d (i : Int) D s va rs _ h)
  rw [hasB_nat hi] at HH
  have hlt : wt < 2 ^ 29 := Nat.lt_of_le_of_lt h2 (by decide)
  have hk := h.sk i hi
  have ri := hd.inv.sk i hi
  have hT := with_timesN (x := x) (f := 29) (w := wt) (L := (D.sks.getD i Hd.none).sk.lv)
  have HEN := hid (fun (w' : World) (vb vt : Value) (hst : AdSt w w' (D.sks.getD i Hd.none).sk.k vb vt x (addB x 29 wt 0) (bln 29 wt)) => (renter_any (x :: itemsAll (D.sks.getD i Hd.none).sk.lv) d i (D.sks.getD i Hd.none).sk.k vb vt (.slice none 0 0) x x (addLo (D.sks.getD i Hd.none) x) (addHi (D.sks.getD i Hd.none) x) false (addB x 29 wt 0) (List.replicate (bln 29 wt) 0) (addL (D.sks.getD i Hd.none) x wt) D s va rs w w' h hst.bel hi hd
    (BagAt.of hst.own rfl) (by rw [nats_rep]; exact Ints.of hst.ownT) (hk.bof.with_ (Nat.zero_le _)) hT (LvOk.with List.mem_cons_self ((hd.ok i hi).srt.mono fun y hy => List.mem_cons_of_mem _ hy)) (withFrom_length hlt (Nat.zero_le _) ri.ok.len (by omega))
    (fun t => by have := tsum_at (addL (D.sks.getD i Hd.none) x wt) t; have e9 : tsum (addL (D.sks.getD i Hd.none) x wt) = tsum (D.sks.getD i Hd.none).sk.lv := withFrom_tsum; have := ri.tn; have := ri.ok.cnt; omega) (by have := addB_len x 29 wt 0; omega) (fun z hz => by have := (addB_of x 29 wt).lt z hz; have e8 := withFrom_length (x := x) hlt (Nat.zero_le 0) (show ([] : List Lvl).length ≤ 29 by simp) (by omega); omega) (by have := ri.ok.k2; omega) (by rw [List.length_replicate]; have := bln_le 29 wt; omega) (fun j => by rw [rep_getD]; omega) ⟨_, _, _, rfl⟩
    (fun _ => boLo_add hk.bof (addB_pos x hlt h1) (fun h' => (hk.ends h').1)) (fun _ => boHi_add hk.bof (addB_pos x hlt h1) (fun h' => (hk.ends h').2))).mono (fun e w'' hh => And.intro (EnPost.ret hh.2) hh))
  rw [addB_w x hlt] at HEN
  obtain ⟨g, c, rfl, hg, q0, q1, q2, q3, q4, q5, q6, qz⟩ := h.cells7 hi
  obtain ⟨c0, c1, c2, cz⟩ := blk3 h.blk
  have hdz := lt_of_blk' h.blk
  rw [hs] at q5
  have hs2 : (i : Int) < (D.sks.length : Int) := by omega
  have hwd : decide ((wt : Int) < 1) = false := decide_eq_false (by omega)
  have hwe : decide ((268435456 : Int) < (wt : Int)) = false := decide_eq_false (by omega)
  generalize EnPost G d i (D.sks.getD i Hd.none).sk.k (addLo (D.sks.getD i Hd.none) x) (addHi (D.sks.getD i Hd.none) x) wt (addL (D.sks.getD i Hd.none) x wt) D w = EP at *
  generalize (D.sks.getD i Hd.none).sk.k = k at *
  generalize D.sks.length = n at *
  have HA0 := hid (AdSt.first w k x)
  generalize hAB : addB x 29 wt 0 = AB at *
  generalize hBL : bln 29 wt = BL at *
  have HB0 : Hid (AB = [] ++ addB x (29 - 0) wt 0) := by rw [Hid, ← hAB]; rfl
  have HL0 : Hid (BL = 0 + bln (29 - 0) wt) := by rw [Hid, ← hBL]; exact (Nat.zero_add _).symm
  clear h hk ri hT hAB hBL q1 q2 q3 q4 q6
  go_enter Tryz.func30, Tryz.ntmps30
  go_wp2_with (go_at_call 63; refine HH.out.mono ?_; rintro e w' ⟨rfl, hw⟩; obtain rfl := hw.symm)
  go_loopw [3, 11] (fun sw si wr => ∃ (j v bl bc tc : Nat) (bo tO : Option Addr) (acc : List (Int × Nat)), j ≤ 29 ∧ v ≤ 268435456 ∧ bl ≤ 29 ∧ sw = .int .i64 (v : Int) ∧ si = .int .i64 (j : Int) ∧ Hid (acc.length = bl) ∧ Hid (bl ≤ j) ∧ Hid (AB = acc ++ addB x (29 - j) v j) ∧ Hid (BL = j + bln (29 - j) v) ∧ Hid (AdSt w wr k (.slice bo bl bc) (.slice tO j tc) x acc j)) (fun _ si _ => 29 - (intOf si).toNat)
  case atStart => exact ⟨0, wt, 0, 0, 0, none, none, [], Nat.zero_le _, h2, Nat.zero_le _, rfl, rfl, rfl, Nat.zero_le _, HB0, HL0, HA0⟩
  case round =>
    obtain ⟨j, v, bl, bc, tc, bo, tO, acc, hj, hv, hbl, rfl, rfl, Hl, Hlj, Hab, Hbl, Hs⟩ := hrel
    clear HA0 HB0 HL0
    have hlj := Hlj.out
    obtain ⟨b0, b1, b2, b3, b4, b5, b6, bz⟩ := blk7' Hs.out.blk
    have hzb := lt_of_blk' Hs.out.blk
    by_cases hgo : j < 29 ∧ 0 < v
    · obtain ⟨hj2, hv2⟩ := hgo
      obtain ⟨f, hf⟩ : ∃ f, 29 - j = f + 1 := ⟨28 - j, by omega⟩
      have hf2 : 29 - (j + 1) = f := by omega
      have HB2 : Hid (AB = acc ++ ((if v % 2 = 1 then [(x, j)] else []) ++ addB x (29 - (j + 1)) (v / 2) (j + 1))) := by rw [Hid, Hab.out, hf, addB_step x hv2, hf2]
      have HL2 : Hid (BL = j + 1 + bln (29 - (j + 1)) (v / 2)) := by rw [Hid, Hbl.out, hf, bln_step hv2, hf2]; omega
      clear hf hf2 f
      by_cases hbit : v % 2 = 1
      · have hbit' : (((v : Int) % 2) == 1) = true := by simp; omega
        have HB3 : Hid (AB = (acc ++ [(x, j)]) ++ addB x (29 - (j + 1)) (v / 2) (j + 1)) := by rw [Hid, HB2.out, if_pos hbit, List.append_assoc]
        go_upto_region 16 with (at_builtin; refine wpList_append_lies _ rfl (.tmp 56) (.tmp 60) 68 rfl w.heap.size 126 i1 (.agg #[.int .i64 0, .int .i64 0]) 2 16 Tryz.underlying68 hi1 hy0 hy1 hy2 rfl (by decide) (.slice bo bl bc) bl (itCells acc) rfl (Hs.out.ownAl _ Hl.out) ⟨wr.heap.size, 0, none⟩ 1 1 (itCells [(x, j)]) rfl rfl (two_it _ _ _ _) (itCells_one _) (by decide) (by unfold maxLen; omega) (by omega) (by have := Hs.out.bel.size; simp; omega) (wr.heap.size + 1) (by simp) ?_; intro g2 cap2 w1 hown1 hgrow1 hat1 hlt1; have HS1 := hid (Hs.out.app (vb' := .slice (some ⟨g2, 0, none⟩) (bl + 1) cap2) (acc' := acc ++ [(x, j)]) (by rw [itCells_append]; exact hown1) (by rw [List.length_append, Hl.out]; rfl) hgrow1); obtain ⟨y0, y1, y2, y3, y4, y5, y6, yz⟩ := blk7' (grow_keep (Hs.out.ownAl _ Hl.out) hgrow1 ((Below.heap_alloc _ _ _ hzb).trans Hs.out.blk) (by decide)); have hzy := Nat.lt_of_lt_of_le hzb (Nat.le_trans (by simp) hgrow1.size); clear hown1 hgrow1 hat1 hlt1)
        have HL3 : Hid ((acc ++ [(x, j)]).length = bl + 1) := by rw [Hid, List.length_append, Hl.out]; rfl
        clear b0 b1 b2 b3 b4 b5 b6 bz hzb y0 y1 y2 y3 y4 y5 y6 yz hzy
        generalize w1.setCell ⟨w.heap.size, 1, none⟩ (.slice (some ⟨g2, 0, none⟩) (bl + 1) cap2) = wB at *
        obtain ⟨b0, b1, b2, b3, b4, b5, b6, bz⟩ := blk7' HS1.out.blk
        have hzb := lt_of_blk' HS1.out.blk
        go_wp2_with (at_builtin; refine wpList_append_lies _ rfl (.tmp 64) (.tmp 65) 28 rfl w.heap.size 3 i0 (.int .i64 0) 1 8 Tryz.underlying28 hi0 hz0 hz1 hz2 rfl (by decide) (.slice tO j tc) j (ints (List.replicate j 0)) rfl (HS1.out.ownTAl _) ⟨wB.heap.size, 0, none⟩ 1 1 [.int .i64 0] rfl rfl (one_new _ _ _) (one_cell _ _) (by decide) (by unfold maxLen; omega) (by omega) (by have := HS1.out.bel.size; simp; omega) (wB.heap.size + 1) (by simp) ?_; intro g3 cap3 w3 hown3 hgrow3 hat3 hlt3; have HS3 := hid (HS1.out.appT (vt' := .slice (some ⟨g3, 0, none⟩) (j + 1) cap3) hown3 hgrow3); obtain ⟨y0, y1, y2, y3, y4, y5, y6, yz⟩ := blk7' (grow_keep (HS1.out.ownTAl _) hgrow3 ((Below.heap_alloc _ _ _ hzb).trans HS1.out.blk) (by decide)); have hzy := Nat.lt_of_lt_of_le hzb (Nat.le_trans (by simp) hgrow3.size); clear hown3 hgrow3 hat3 hlt3)
        go_roundw
        case rel => exact ⟨j + 1, v / 2, bl + 1, _, _, _, _, _, by omega, by omega, by omega, by go_num, by go_num, HL3, by show bl + 1 ≤ j + 1; omega, HB3, HL2, HS3⟩
        case measure => simp [intOf]; omega
      · have hbit' : (((v : Int) % 2) == 1) = false := by simp; omega
        have HB3 : Hid (AB = acc ++ addB x (29 - (j + 1)) (v / 2) (j + 1)) := by rw [Hid, HB2.out, if_neg hbit]; rfl
        go_wp2_with (at_builtin; refine wpList_append_lies _ rfl (.tmp 64) (.tmp 65) 28 rfl w.heap.size 3 i0 (.int .i64 0) 1 8 Tryz.underlying28 hi0 hz0 hz1 hz2 rfl (by decide) (.slice tO j tc) j (ints (List.replicate j 0)) rfl (Hs.out.ownTAl _) ⟨wr.heap.size, 0, none⟩ 1 1 [.int .i64 0] rfl rfl (one_new _ _ _) (one_cell _ _) (by decide) (by unfold maxLen; omega) (by omega) (by have := Hs.out.bel.size; simp; omega) (wr.heap.size + 1) (by simp) ?_; intro g3 cap3 w3 hown3 hgrow3 hat3 hlt3; have HS3 := hid (Hs.out.appT (vt' := .slice (some ⟨g3, 0, none⟩) (j + 1) cap3) hown3 hgrow3); obtain ⟨y0, y1, y2, y3, y4, y5, y6, yz⟩ := blk7' (grow_keep (Hs.out.ownTAl _) hgrow3 ((Below.heap_alloc _ _ _ hzb).trans Hs.out.blk) (by decide)); have hzy := Nat.lt_of_lt_of_le hzb (Nat.le_trans (by simp) hgrow3.size); clear hown3 hgrow3 hat3 hlt3)
        go_roundw
        case rel => exact ⟨j + 1, v / 2, bl, _, _, _, _, _, by omega, by omega, by omega, by go_num, by go_num, Hl, by show bl ≤ j + 1; omega, HB3, HL2, HS3⟩
        case measure => simp [intOf]; omega
    · have HAB : Hid (AB = acc ∧ BL = j) := by
        have e1 := Hab.out
        have e2 := Hbl.out
        by_cases hv0 : v = 0
        · rw [hv0, addB_zero, List.append_nil] at e1
          rw [hv0, bln_zero] at e2
          exact ⟨e1, e2⟩
        · have : j = 29 := by omega
          subst this
          exact ⟨by rw [e1]; simp [addB], by rw [e2]; simp [bln]⟩
      have HEX := hid (HEN.out wr (.slice bo bl bc) (.slice tO j tc) (by rw [HAB.out.1, HAB.out.2]; exact Hs.out))
      by_cases hj2 : j < 29
      · have hv0 : v = 0 := by omega
        subst hv0
        go_wp2_with fail
        refine HEX.out.mono ?_
        rintro e w9 ⟨⟨c9, rfl⟩, hz9, he9⟩
        have HE9 := hid he9
        go_wp2_with fail
        go_ret
        exact ⟨hz9.1, HE9.out⟩
      · go_wp2_with fail
        refine HEX.out.mono ?_
        rintro e w9 ⟨⟨c9, rfl⟩, hz9, he9⟩
        have HE9 := hid he9
        go_wp2_with fail
        go_ret
        exact ⟨hz9.1, HE9.out⟩

theorem mergeK_self (k : Nat) : mergeK k k = k := by unfold mergeK; split <;> rfl

theorem radd_any (d : Nat) (A B C : Int) (D : Dk) (w : World) (h : RAt G w d D) (hd : LInv D) :
    Calls Tryz.prog 30 #[.pointer (some ⟨d, 0, none⟩), .int .i64 A, .int .i64 B, .int .i64 C] w fun e w' => ∃ c D', e = .returned (.int .i64 c) ∧ RStep G w w' d D' ∧ AddRel A B C D c D' := by
  have H0 := RStep.of_below h (Below.refl _ _)
  cases hs : hasB A D.sks.length with
  | false => exact (radd_no d A B C D w h hs).mono (fun e w' ⟨he, hw⟩ => ⟨4, D, he, by rw [hw]; exact H0, .inl ⟨rfl, hs, rfl⟩⟩)
  | true =>
    obtain ⟨i, rfl, hi⟩ := hasB_at hs
    cases hse : (D.sks.getD i Hd.none).sealed with
    | true => exact (radd_bad d i B C 5 D w h hi (.inl ⟨hse, rfl⟩)).mono (fun e w' ⟨he, hw⟩ => ⟨5, D, he, by rw [hw]; exact H0, .inr ⟨i, rfl, hi, .inl ⟨rfl, hse, rfl⟩⟩⟩)
    | false =>
      by_cases h1 : C < 1
      · exact (radd_bad d i B C 1 D w h hi (.inr ⟨hse, .inl ⟨h1, rfl⟩⟩)).mono (fun e w' ⟨he, hw⟩ => ⟨1, D, he, by rw [hw]; exact H0, .inr ⟨i, rfl, hi, .inr ⟨hse, .inl ⟨rfl, h1, rfl⟩⟩⟩⟩)
      · by_cases h2 : 268435456 < C
        · exact (radd_bad d i B C 6 D w h hi (.inr ⟨hse, .inr ⟨h2, rfl⟩⟩)).mono (fun e w' ⟨he, hw⟩ => ⟨6, D, he, by rw [hw]; exact H0, .inr ⟨i, rfl, hi, .inr ⟨hse, .inr (.inl ⟨rfl, by omega, by omega, rfl⟩)⟩⟩⟩)
        · obtain ⟨wt, rfl⟩ : ∃ wt : Nat, C = (wt : Int) := ⟨C.toNat, by omega⟩
          refine (radd_in d i wt B D w h hd hi hse (by omega) (by omega)).mono (fun e w' hx => ?_)
          obtain ⟨_, c, D', he, hst, hr⟩ := hx
          rw [mergeK_self] at hr
          refine ⟨c, D', he, hst, .inr ⟨i, rfl, hi, .inr ⟨hse, ?_⟩⟩⟩
          rcases hr with ⟨r1, r2, r3⟩ | ⟨r2, ⟨r1, r3, r4⟩ | ⟨r1, L, u, r3, r4⟩⟩
          · exact .inr (.inl ⟨r1, by omega, by omega, r3⟩)
          · exact .inr (.inr ⟨by omega, by omega, .inl ⟨r1, by simpa using r3, r4⟩⟩)
          · exact .inr (.inr ⟨by omega, by omega, .inr ⟨r1, L, u, by simpa using r3, r4⟩⟩)

end Go.Proofs.YtklicjbpjigfdabGreat

/- DERIVED. The walk of the document's own Merge. -/
namespace Go.Proofs.YtklicjbpjigfdabGreat
open Go.RowKit
attribute [local go_sem ↓] Go.wp_at_zero Go.wp_at_succ
variable {G : Nat → Prop}

set_option maxHeartbeats 400000 in
theorem rmerge_no (d : Nat) (A B : Int) (D : Dk) (w : World) (h : RAt G w d D) (hs : hasB A D.sks.length = false ∨ hasB B D.sks.length = false) :
    Calls Tryz.prog 32 #[.pointer (some ⟨d, 0, none⟩), .int .i64 A, .int .i64 B] w fun e w' => e = .returned (.int .i64 4) ∧ w' = w := by
  obtain ⟨s, va, rs, h⟩ := h
  have HHA := hid (rhas d A D s va rs _ h)
  have HHB := hid (rhas d B D s va rs _ h)
  clear h
  cases hA : hasB A D.sks.length <;> cases hB : hasB B D.sks.length
  all_goals
    rw [hA] at HHA hs
    rw [hB] at HHB hs
  · clear hs hA hB
    go_enter Tryz.func32, Tryz.ntmps32
    go_wp2_with fail
    refine HHA.out.mono ?_
    rintro e w' ⟨rfl, hw⟩
    obtain rfl := hw.symm
    clear hw
    go_wp2_with fail
    refine HHB.out.mono ?_
    rintro e w' ⟨rfl, hw⟩
    obtain rfl := hw.symm
    clear hw
    go_wp2_with fail
    go_ret
    exact ⟨rfl, rfl⟩
  · clear hs hA hB
    go_enter Tryz.func32, Tryz.ntmps32
    go_wp2_with fail
    refine HHA.out.mono ?_
    rintro e w' ⟨rfl, hw⟩
    obtain rfl := hw.symm
    clear hw
    go_wp2_with fail
    refine HHB.out.mono ?_
    rintro e w' ⟨rfl, hw⟩
    obtain rfl := hw.symm
    clear hw
    go_wp2_with fail
    go_ret
    exact ⟨rfl, rfl⟩
  · clear hs hA hB
    go_enter Tryz.func32, Tryz.ntmps32
    go_wp2_with fail
    refine HHA.out.mono ?_
    rintro e w' ⟨rfl, hw⟩
    obtain rfl := hw.symm
    clear hw
    go_wp2_with fail
    refine HHB.out.mono ?_
    rintro e w' ⟨rfl, hw⟩
    obtain rfl := hw.symm
    clear hw
    go_wp2_with fail
    go_ret
    exact ⟨rfl, rfl⟩
  · rcases hs with hs | hs <;> cases hs

set_option maxHeartbeats 400000 in
theorem rmerge_sealed (d i j : Nat) (D : Dk) (w : World) (h : RAt G w d D) (hi : i < D.sks.length) (hj : j < D.sks.length) (hs : (D.sks.getD i Hd.none).sealed = true) :
    Calls Tryz.prog 32 #[.pointer (some ⟨d, 0, none⟩), .int .i64 (i : Int), .int .i64 (j : Int)] w fun e w' => e = .returned (.int .i64 5) ∧ w' = w := by
  obtain ⟨s, va, rs, h⟩ := h
  have HHA := hid (rhas d (i : Int) D s va rs _ h)
  have HHB := hid (rhas d (j : Int) D s va rs _ h)
  rw [hasB_nat hi] at HHA
  rw [hasB_nat hj] at HHB
  obtain ⟨g, c, rfl, hg, q0, q1, q2, q3, q4, q5, q6, qz⟩ := h.cells7 hi
  obtain ⟨c0, c1, c2, cz⟩ := blk3 h.blk
  have hdz := lt_of_blk' h.blk
  rw [hs] at q5
  have hs2 : (i : Int) < (D.sks.length : Int) := by omega
  generalize D.sks.length = n at *
  clear h q0 q1 q2 q3 q4 q6
  go_enter Tryz.func32, Tryz.ntmps32
  go_wp2_with fail
  refine HHA.out.mono ?_
  rintro e w' ⟨rfl, hw⟩
  obtain rfl := hw.symm
  clear hw
  go_wp2_with fail
  refine HHB.out.mono ?_
  rintro e w' ⟨rfl, hw⟩
  obtain rfl := hw.symm
  clear hw
  go_wp2_with fail
  go_ret
  exact ⟨rfl, rfl⟩

set_option maxHeartbeats 1000000 in
theorem rmerge_in (d i j : Nat) (D : Dk) (w : World) (h : RAt G w d D) (hd : LInv D) (hi : i < D.sks.length) (hj : j < D.sks.length) (hs : (D.sks.getD i Hd.none).sealed = false) :
    Calls Tryz.prog 32 #[.pointer (some ⟨d, 0, none⟩), .int .i64 (i : Int), .int .i64 (j : Int)] w fun e w' => ∃ c D', e = .returned (.int .i64 c) ∧ RStep G w w' d D' ∧ MergeRel (i : Int) (j : Int) D c D' := by
  obtain ⟨s, va, rs, h⟩ := h
  have HHA := hid (rhas d (i : Int) D s va rs _ h)
  have HHB := hid (rhas d (j : Int) D s va rs _ h)
  rw [hasB_nat hi] at HHA
  rw [hasB_nat hj] at HHB
  have hki := h.sk i hi
  have hkj := h.sk j hj
  have ri := hd.inv.sk i hi
  have rj := hd.inv.sk j hj
  obtain ⟨bo, bl, bc, tO, tl, tc, ko, kl, kc, e1, e2, e3, e4, e5⟩ := hkj.forms
  have hTS := ri.ts rj
  obtain ⟨hbl, hlow⟩ := h.bagLen hd hj
  have hnb : (rs.getD j RRef.none).bag.length ≤ 50000 := by
    have := rj.set
    have h2 := capSum_monoK rj.ok.k2 (D.sks.getD j Hd.none).sk.lv.length
    have h3 := capSum_mono (k := 64) rj.ok.len
    rw [capSum_230] at h3
    have := hkj.bof.nsum
    omega
  have HEN := hid (renter_any (itemsAll (D.sks.getD i Hd.none).sk.lv ++ itemsAll (D.sks.getD j Hd.none).sk.lv) d i (D.sks.getD j Hd.none).sk.k (rs.getD j RRef.none).vb (rs.getD j RRef.none).vt (rs.getD j RRef.none).vk (rs.getD j RRef.none).lo (rs.getD j RRef.none).hi (mgLo (D.sks.getD i Hd.none) (D.sks.getD j Hd.none)) (mgHi (D.sks.getD i Hd.none) (D.sks.getD j Hd.none)) (D.sks.getD j Hd.none).sealed (rs.getD j RRef.none).bag (timesN (D.sks.getD j Hd.none).sk.lv) (mgL (D.sks.getD i Hd.none) (D.sks.getD j Hd.none)) D s va rs w w h (Below.refl _ _) hi hd hkj.bag hkj.tms (hki.bof.merge hkj.bof) (mergeL_timesN _ _)
    (LvOk.merge ((hd.ok i hi).srt.mono fun y hy => List.mem_append_left _ hy) ((hd.ok j hj).srt.mono fun y hy => List.mem_append_right _ hy)) (by unfold mgL; rw [mergeL_length]; have := ri.ok.len; have := rj.ok.len; omega)
    (fun t => by have := tsum_at (mgL (D.sks.getD i Hd.none) (D.sks.getD j Hd.none)) t; have e9 : tsum (mgL (D.sks.getD i Hd.none) (D.sks.getD j Hd.none)) = tsum (D.sks.getD i Hd.none).sk.lv + tsum (D.sks.getD j Hd.none).sk.lv := mergeL_tsum _ _; omega) hnb hlow (by have := rj.ok.k2; omega) (by rw [timesN_length]; have := rj.ok.len; omega) (fun t => by rw [timesN_getD]; have := rj.ok.tms t; omega) ⟨_, _, _, e3⟩
    (fun hne => boLo_mg hki.bof hkj.bof (fun h' => (hki.ends h').1) (fun h' => (hkj.ends h').1) hne) (fun hne => boHi_mg hki.bof hkj.bof (fun h' => (hki.ends h').2) (fun h' => (hkj.ends h').2) hne))
  rw [bagW_of hkj.bof] at HEN
  have HRL : Hid (∀ (c : Int) (D' : Dk), ((c = 6 ∧ 268435456 < wsum (D.sks.getD i Hd.none).sk.lv + wsum (D.sks.getD j Hd.none).sk.lv ∧ D' = D) ∨ (wsum (D.sks.getD i Hd.none).sk.lv + wsum (D.sks.getD j Hd.none).sk.lv ≤ 268435456 ∧
        ((c = 7 ∧ settle (mergeK (D.sks.getD i Hd.none).sk.k (D.sks.getD j Hd.none).sk.k) D.tape 0 (mgL (D.sks.getD i Hd.none) (D.sks.getD j Hd.none)) = Option.none ∧ D' = D) ∨ (c = 0 ∧ ∃ L u, settle (mergeK (D.sks.getD i Hd.none).sk.k (D.sks.getD j Hd.none).sk.k) D.tape 0 (mgL (D.sks.getD i Hd.none) (D.sks.getD j Hd.none)) = some (L, u) ∧
          D' = { D with tape := D.tape.drop u, sks := D.sks.set i { sk := { k := mergeK (D.sks.getD i Hd.none).sk.k (D.sks.getD j Hd.none).sk.k, lv := L, lo := mgLo (D.sks.getD i Hd.none) (D.sks.getD j Hd.none), hi := mgHi (D.sks.getD i Hd.none) (D.sks.getD j Hd.none) }, sealed := (D.sks.getD i Hd.none).sealed, taken := (D.sks.getD i Hd.none).taken } })))) → MergeRel (i : Int) (j : Int) D c D') := fun c D' hx => .inr ⟨i, j, rfl, rfl, hi, hj, .inr ⟨hs, hx⟩⟩
  obtain ⟨g, c, rfl, hg, q0, q1, q2, q3, q4, q5, q6, qz⟩ := h.cells7 hi
  obtain ⟨g', c', e6, hg', p0, p1, p2, p3, p4, p5, p6, pz⟩ := h.cells7 hj
  cases e6
  obtain ⟨c0, c1, c2, cz⟩ := blk3 h.blk
  have hdz := lt_of_blk' h.blk
  rw [hs] at q5
  rw [e1] at p1 HEN
  rw [e2] at p2 HEN
  rw [e3] at p6 HEN
  have hs2 : (i : Int) < (D.sks.length : Int) := by omega
  have hs3 : (j : Int) < (D.sks.length : Int) := by omega
  generalize D.sks.length = n at *
  clear h q0 q1 q2 q3 q4 q6 hki hkj ri rj e1 e2 e3 e4 e5
  go_enter Tryz.func32, Tryz.ntmps32
  go_wp2_with fail
  refine HHA.out.mono ?_
  rintro e w' ⟨rfl, hw⟩
  obtain rfl := hw.symm
  clear hw
  go_wp2_with fail
  refine HHB.out.mono ?_
  rintro e w' ⟨rfl, hw⟩
  obtain rfl := hw.symm
  clear hw
  go_wp2_with fail
  refine HEN.out.mono ?_
  rintro e w2 ⟨_, c9, D9, rfl, hst, hrel⟩
  have HST := hid hst
  have HR := hid (HRL.out _ _ hrel)
  clear hst hrel HEN HRL
  go_wp2_with fail
  go_ret
  exact ⟨c9, D9, rfl, HST.out, HR.out⟩

theorem rmerge_any (d : Nat) (A B : Int) (D : Dk) (w : World) (h : RAt G w d D) (hd : LInv D) :
    Calls Tryz.prog 32 #[.pointer (some ⟨d, 0, none⟩), .int .i64 A, .int .i64 B] w fun e w' => ∃ c D', e = .returned (.int .i64 c) ∧ RStep G w w' d D' ∧ MergeRel A B D c D' := by
  by_cases hn : hasB A D.sks.length = false ∨ hasB B D.sks.length = false
  · exact (rmerge_no d A B D w h hn).mono (fun e w' ⟨he, hw⟩ => ⟨4, D, he, by rw [hw]; exact RStep.of_below h (Below.refl _ _), .inl ⟨rfl, hn, rfl⟩⟩)
  · have hA : hasB A D.sks.length = true := by cases h' : hasB A D.sks.length with | true => rfl | false => exact absurd (.inl h') hn
    have hB : hasB B D.sks.length = true := by cases h' : hasB B D.sks.length with | true => rfl | false => exact absurd (.inr h') hn
    obtain ⟨i, rfl, hi⟩ := hasB_at hA
    obtain ⟨j, rfl, hj⟩ := hasB_at hB
    cases hs : (D.sks.getD i Hd.none).sealed with
    | true => exact (rmerge_sealed d i j D w h hi hj hs).mono (fun e w' ⟨he, hw⟩ => ⟨5, D, he, by rw [hw]; exact RStep.of_below h (Below.refl _ _), .inr ⟨i, j, rfl, rfl, hi, hj, .inl ⟨rfl, hs, rfl⟩⟩⟩)
    | false => exact rmerge_in d i j D w h hd hi hj hs

end Go.Proofs.YtklicjbpjigfdabGreat

/- DERIVED. One step on both desks: Left, Add, Merge. -/
namespace Go.Proofs.YtklicjbpjigfdabGreat
open Go.RowKit
attribute [local go_sem ↓] Go.wp_at_zero Go.wp_at_succ

set_option maxHeartbeats 2000000 in
set_option maxRecDepth 100000 in
theorem ladd_any (p pd pr : Nat) (a b c : Int) (s : ByteArray) (vl : Value) (D : Dk) (M : List Le) (w0 w : World) (h : LwSt w0 w p pd pr D D M) (hd : LInv D) (hx : ∀ i, i < M.length → (M.getD i Le.none).xs.length ≤ 1099511627776) :
    Calls Tryz.prog 15 #[.pointer (some ⟨p, 0, none⟩), opVal 4 a b c s vl] w fun e w' => e = .returned (.bool true) ∧ StepPost w0 p pd pr M w' := by
  have k0 := (h.box (opBlk 4 a b c s vl)).drew
  have b0 : (w.alloc (opBlk 4 a b c s vl)).drew.heap[w.heap.size]? = some (opBlk 4 a b c s vl) := heap_alloc_new w _
  obtain ⟨F, hdk, hstep⟩ := k0.prog
  have HF := hid (addTot pd a b c D _ hdk hd.inv)
  have HST := hid hstep
  obtain ⟨c0, c1, hpz, hqz⟩ := k0.cells
  obtain ⟨q0, q1, q2, q3, q4, q5⟩ := blk6 b0
  have HB0 := hid b0
  have HR2 := hid (fun (G : Nat → Prop) (W : World) (hr : RAt G W pr D) => radd_any pr a b c D W hr hd)
  have HNU := hid (fun (v : Int) (W : World) => lnum_any v W)
  have HLI := hid hd
  have HX := hid hx
  have hS0 : (w.alloc (opBlk 4 a b c s vl)).drew.cell? ⟨p, 0, none⟩ = some (.pointer (some ⟨pd, 0, none⟩)) ∧ (w.alloc (opBlk 4 a b c s vl)).drew.cell? ⟨w.heap.size, 1, none⟩ = some (.int .i64 a) ∧ (w.alloc (opBlk 4 a b c s vl)).drew.cell? ⟨w.heap.size, 2, none⟩ = some (.int .i64 b) ∧ (w.alloc (opBlk 4 a b c s vl)).drew.cell? ⟨w.heap.size, 3, none⟩ = some (.int .i64 c) := ⟨c0, q1, q2, q3⟩
  have c0' : (w.alloc (opBlk 4 a b c s vl)).cell? ⟨p, 0, none⟩ = some (.pointer (some ⟨pd, 0, none⟩)) := c0
  have hpz' : p < (w.alloc (opBlk 4 a b c s vl)).heap.size := hpz
  clear h k0 hdk hstep hd hx b0 c0 c1 hpz q1 q2 q3 q5
  go_enter Tryz.func15, Tryz.ntmps15
  go_wp2_with fail
  go_region_held3 (fun w' => w'.cell? ⟨p, 0, none⟩ = some (.pointer (some ⟨pd, 0, none⟩)) ∧ w'.cell? ⟨w.heap.size, 1, none⟩ = some (.int .i64 a) ∧ w'.cell? ⟨w.heap.size, 2, none⟩ = some (.int .i64 b) ∧ w'.cell? ⟨w.heap.size, 3, none⟩ = some (.int .i64 c)) (first | with_reducible exact hS0 | with_reducible exact hS3 | go_keep) (first | (go_at_call 29; refine HF.out.mono ?_; rintro e w1 ⟨c1, D1, rfl, hst1, hr1⟩; obtain ⟨k1, e1⟩ := HST.out w1 D1 hst1; have b1 := e1.trans HB0.out; have hS3 : w1.cell? ⟨p, 0, none⟩ = some (.pointer (some ⟨pd, 0, none⟩)) ∧ w1.cell? ⟨w.heap.size, 1, none⟩ = some (.int .i64 a) ∧ w1.cell? ⟨w.heap.size, 2, none⟩ = some (.int .i64 b) ∧ w1.cell? ⟨w.heap.size, 3, none⟩ = some (.int .i64 c) := ⟨k1.cells.1, (blk6 b1).2.1, (blk6 b1).2.2.1, (blk6 b1).2.2.2.1⟩))
  have HK1 := hid k1.drew
  have HB1 : Hid (w1.drew.heap[w.heap.size]? = some (opBlk 4 a b c s vl)) := b1
  have HRL1 := hid hr1
  obtain ⟨d0, d1, hpz1, hqz1⟩ := k1.cells
  obtain ⟨y0, y1, y2, y3, y4, y5⟩ := blk6 b1
  have hS0' : w1.drew.cell? ⟨p, 1, none⟩ = some (.pointer (some ⟨pr, 0, none⟩)) ∧ w1.drew.cell? ⟨w.heap.size, 1, none⟩ = some (.int .i64 a) ∧ w1.drew.cell? ⟨w.heap.size, 2, none⟩ = some (.int .i64 b) ∧ w1.drew.cell? ⟨w.heap.size, 3, none⟩ = some (.int .i64 c) := ⟨d1, y1, y2, y3⟩
  clear hS0 hS3 k1 e1 b1 hr1 hst1 HF HST HB0 y1 y2 y3 y5 d0 q0 q4 c0' hpz'
  obtain ⟨G, hra, hstep2⟩ := HK1.out.doc
  have HF2 := hid (HR2.out G _ hra)
  have HST2 := hid hstep2
  clear hra hstep2 HR2
  go_wp2_with fail
  go_region_held3 (fun w' => w'.cell? ⟨p, 1, none⟩ = some (.pointer (some ⟨pr, 0, none⟩)) ∧ w'.cell? ⟨w.heap.size, 1, none⟩ = some (.int .i64 a) ∧ w'.cell? ⟨w.heap.size, 2, none⟩ = some (.int .i64 b) ∧ w'.cell? ⟨w.heap.size, 3, none⟩ = some (.int .i64 c)) (first | with_reducible exact hS0' | with_reducible exact hS4 | go_keep) (first | (go_at_call 30; refine HF2.out.mono ?_; rintro e w2 ⟨c2, D2, rfl, hst2, hr2⟩; obtain ⟨k2, e2⟩ := HST2.out w2 D2 hst2; have b2 := e2.trans HB1.out; have hS4 : w2.cell? ⟨p, 1, none⟩ = some (.pointer (some ⟨pr, 0, none⟩)) ∧ w2.cell? ⟨w.heap.size, 1, none⟩ = some (.int .i64 a) ∧ w2.cell? ⟨w.heap.size, 2, none⟩ = some (.int .i64 b) ∧ w2.cell? ⟨w.heap.size, 3, none⟩ = some (.int .i64 c) := ⟨k2.cells.2.1, (blk6 b2).2.1, (blk6 b2).2.2.1, (blk6 b2).2.2.2.1⟩))
  obtain ⟨hcc, hDD⟩ := HRL1.out.det hr2
  subst hcc
  subst hDD
  have HFIN : Hid (StepPost w0 p pd pr M w2) := StepPost.same k2.st (hr2.linv HLI.out) HX.out
  clear k2 e2 b2 hr2 hst2 hS4 hS0' HST2 HF2 HK1 HB1 HRL1
  have hcb : (c1 == c1) = true := by simp
  go_wp2_with (go_at_call 11; refine (HNU.out _ _).mono ?_; rintro e w' ⟨rfl, hw⟩; obtain rfl := hw.symm)
  go_ret
  exact ⟨rfl, HFIN.out⟩

set_option maxHeartbeats 2000000 in
set_option maxRecDepth 100000 in
theorem lmerge_any (p pd pr : Nat) (a b c : Int) (s : ByteArray) (vl : Value) (D : Dk) (M : List Le) (w0 w : World) (h : LwSt w0 w p pd pr D D M) (hd : LInv D) (hx : ∀ i, i < M.length → (M.getD i Le.none).xs.length ≤ 1099511627776) :
    Calls Tryz.prog 15 #[.pointer (some ⟨p, 0, none⟩), opVal 9 a b c s vl] w fun e w' => e = .returned (.bool true) ∧ StepPost w0 p pd pr M w' := by
  have k0 := (h.box (opBlk 9 a b c s vl)).drew
  have b0 : (w.alloc (opBlk 9 a b c s vl)).drew.heap[w.heap.size]? = some (opBlk 9 a b c s vl) := heap_alloc_new w _
  obtain ⟨F, hdk, hstep⟩ := k0.prog
  have HF := hid (mergeT pd a b D _ hdk hd.inv)
  have HST := hid hstep
  obtain ⟨c0, c1, hpz, hqz⟩ := k0.cells
  obtain ⟨q0, q1, q2, q3, q4, q5⟩ := blk6 b0
  have HB0 := hid b0
  have HR2 := hid (fun (G : Nat → Prop) (W : World) (hr : RAt G W pr D) => rmerge_any pr a b D W hr hd)
  have HNU := hid (fun (v : Int) (W : World) => lnum_any v W)
  have HLI := hid hd
  have HX := hid hx
  have hS0 : (w.alloc (opBlk 9 a b c s vl)).drew.cell? ⟨p, 0, none⟩ = some (.pointer (some ⟨pd, 0, none⟩)) ∧ (w.alloc (opBlk 9 a b c s vl)).drew.cell? ⟨w.heap.size, 1, none⟩ = some (.int .i64 a) ∧ (w.alloc (opBlk 9 a b c s vl)).drew.cell? ⟨w.heap.size, 2, none⟩ = some (.int .i64 b) := ⟨c0, q1, q2⟩
  have c0' : (w.alloc (opBlk 9 a b c s vl)).cell? ⟨p, 0, none⟩ = some (.pointer (some ⟨pd, 0, none⟩)) := c0
  have hpz' : p < (w.alloc (opBlk 9 a b c s vl)).heap.size := hpz
  clear h k0 hdk hstep hd hx b0 c0 c1 hpz q1 q2 q3 q5
  go_enter Tryz.func15, Tryz.ntmps15
  go_wp2_with fail
  go_region_held3 (fun w' => w'.cell? ⟨p, 0, none⟩ = some (.pointer (some ⟨pd, 0, none⟩)) ∧ w'.cell? ⟨w.heap.size, 1, none⟩ = some (.int .i64 a) ∧ w'.cell? ⟨w.heap.size, 2, none⟩ = some (.int .i64 b)) (first | with_reducible exact hS0 | with_reducible exact hS3 | go_keep) (first | (go_at_call 31; refine HF.out.mono ?_; rintro e w1 ⟨c1, D1, rfl, hst1, hr1⟩; obtain ⟨k1, e1⟩ := HST.out w1 D1 hst1; have b1 := e1.trans HB0.out; have hS3 : w1.cell? ⟨p, 0, none⟩ = some (.pointer (some ⟨pd, 0, none⟩)) ∧ w1.cell? ⟨w.heap.size, 1, none⟩ = some (.int .i64 a) ∧ w1.cell? ⟨w.heap.size, 2, none⟩ = some (.int .i64 b) := ⟨k1.cells.1, (blk6 b1).2.1, (blk6 b1).2.2.1⟩))
  have HK1 := hid k1.drew
  have HB1 : Hid (w1.drew.heap[w.heap.size]? = some (opBlk 9 a b c s vl)) := b1
  have HRL1 := hid hr1
  obtain ⟨d0, d1, hpz1, hqz1⟩ := k1.cells
  obtain ⟨y0, y1, y2, y3, y4, y5⟩ := blk6 b1
  have hS0' : w1.drew.cell? ⟨p, 1, none⟩ = some (.pointer (some ⟨pr, 0, none⟩)) ∧ w1.drew.cell? ⟨w.heap.size, 1, none⟩ = some (.int .i64 a) ∧ w1.drew.cell? ⟨w.heap.size, 2, none⟩ = some (.int .i64 b) := ⟨d1, y1, y2⟩
  clear hS0 hS3 k1 e1 b1 hr1 hst1 HF HST HB0 y1 y2 y3 y5 d0 q0 q4 c0' hpz'
  obtain ⟨G, hra, hstep2⟩ := HK1.out.doc
  have HF2 := hid (HR2.out G _ hra)
  have HST2 := hid hstep2
  clear hra hstep2 HR2
  go_wp2_with fail
  go_region_held3 (fun w' => w'.cell? ⟨p, 1, none⟩ = some (.pointer (some ⟨pr, 0, none⟩)) ∧ w'.cell? ⟨w.heap.size, 1, none⟩ = some (.int .i64 a) ∧ w'.cell? ⟨w.heap.size, 2, none⟩ = some (.int .i64 b)) (first | with_reducible exact hS0' | with_reducible exact hS4 | go_keep) (first | (go_at_call 32; refine HF2.out.mono ?_; rintro e w2 ⟨c2, D2, rfl, hst2, hr2⟩; obtain ⟨k2, e2⟩ := HST2.out w2 D2 hst2; have b2 := e2.trans HB1.out; have hS4 : w2.cell? ⟨p, 1, none⟩ = some (.pointer (some ⟨pr, 0, none⟩)) ∧ w2.cell? ⟨w.heap.size, 1, none⟩ = some (.int .i64 a) ∧ w2.cell? ⟨w.heap.size, 2, none⟩ = some (.int .i64 b) := ⟨k2.cells.2.1, (blk6 b2).2.1, (blk6 b2).2.2.1⟩))
  obtain ⟨hcc, hDD⟩ := HRL1.out.det hr2
  subst hcc
  subst hDD
  have HFIN : Hid (StepPost w0 p pd pr M w2) := StepPost.same k2.st (hr2.linv HLI.out) HX.out
  clear k2 e2 b2 hr2 hst2 hS4 hS0' HST2 HF2 HK1 HB1 HRL1
  have hcb : (c1 == c1) = true := by simp
  go_wp2_with (go_at_call 11; refine (HNU.out _ _).mono ?_; rintro e w' ⟨rfl, hw⟩; obtain rfl := hw.symm)
  go_ret
  exact ⟨rfl, HFIN.out⟩

set_option maxHeartbeats 1000000 in
theorem lleft_any (p pd pr : Nat) (kd a b c : Int) (s : ByteArray) (vl : Value) (D : Dk) (M : List Le) (w0 w : World) (hk : ¬ kd = 1) (h : LwSt w0 w p pd pr D D M) (hd : LInv D) (hx : ∀ i, i < M.length → (M.getD i Le.none).xs.length ≤ 1099511627776) :
    Calls Tryz.prog 12 #[.pointer (some ⟨p, 0, none⟩), opVal kd a b c s vl] w fun e w' => e = .returned (.bool true) ∧ StepPost w0 p pd pr M w' := by
  have k0 := h.box (opBlk kd a b c s vl)
  have b0 : (w.alloc (opBlk kd a b c s vl)).heap[w.heap.size]? = some (opBlk kd a b c s vl) := heap_alloc_new w _
  obtain ⟨F, hdk, _⟩ := k0.prog
  obtain ⟨G, hra, _⟩ := k0.doc
  have HF := hid (deskLeft pd D _ hdk)
  have HR : Hid (Calls Tryz.prog 25 #[.pointer (some ⟨pr, 0, none⟩)] (w.alloc (opBlk kd a b c s vl)) fun e w' => e = .returned (.int .i64 (D.tape.length : Int)) ∧ w' = w.alloc (opBlk kd a b c s vl)) := by
    obtain ⟨t, va, rs, hr⟩ := hra
    have := rleft_any pr _ t va _ hr.blk
    rw [show t.size = D.tape.length by rw [← hr.tape]; simp [coinsOf]] at this
    exact this
  obtain ⟨c0, c1, hpz, hqz⟩ := k0.cells
  obtain ⟨q0, q1, q2, q3, q4, q5⟩ := blk6 b0
  have HFIN : Hid (StepPost w0 p pd pr M (w.alloc (opBlk kd a b c s vl))) := StepPost.same k0.st hd hx
  have hk' : (kd == 1) = false := by simpa using hk
  have hcb : ((D.tape.length : Int) == (D.tape.length : Int)) = true := by simp
  generalize D.tape.length = n at *
  clear h k0 hdk hra b0 q1 q2 q3 q4 q5
  go_enter Tryz.func12, Tryz.ntmps12
  go_wp2_with (first | (go_at_call 24; refine HF.out.mono ?_; rintro e w' ⟨rfl, hw⟩; obtain rfl := hw.symm) | (go_at_call 25; refine HR.out.mono ?_; rintro e w' ⟨rfl, hw⟩; obtain rfl := hw.symm))
  go_ret
  exact ⟨rfl, HFIN.out⟩

end Go.Proofs.YtklicjbpjigfdabGreat

/- DERIVED. The errors of the desk's telling calls: there is no such sketch. -/
namespace Go.Proofs.YtklicjbpjigfdabGreat
open Go.RowKit
attribute [local go_sem ↓] Go.wp_at_zero Go.wp_at_succ
variable {F : Nat → Prop}

set_option maxHeartbeats 400000 in
theorem deskEnds_no (d : Nat) (D : Dk) (s : Int) (w : World) (h : DeskAt F w d D) (hs : hasB s D.sks.length = false) :
    Calls Tryz.prog 39 #[.pointer (some ⟨d, 0, none⟩), .int .i64 s] w fun e w' => e = .returned (.tuple #[.int .i64 0, .int .i64 0, .int .i64 4]) ∧ w' = w := by
  obtain ⟨vt, vk, rs, h⟩ := h
  obtain ⟨ao, c, rfl, _⟩ := h.vkForm
  obtain ⟨_, _, c2, _⟩ := blk3 h.blk
  have HH := hid (has_any d s _ _ _ _ c2)
  rw [hs] at HH
  clear h
  go_enter Tryz.func39, Tryz.ntmps39
  go_wp2_with (go_at_call 59; refine HH.out.mono ?_; rintro e w' ⟨rfl, hw⟩; obtain rfl := hw.symm)
  go_ret3
  exact ⟨rfl, rfl⟩

set_option maxHeartbeats 400000 in
theorem deskLevel_has (d : Nat) (D : Dk) (s hh : Int) (w : World) (h : DeskAt F w d D) (hs : hasB s D.sks.length = false) :
    Calls Tryz.prog 41 #[.pointer (some ⟨d, 0, none⟩), .int .i64 s, .int .i64 hh] w fun e w' => e = .returned (.tuple #[.slice none 0 0, .int .i64 4]) ∧ w' = w := by
  obtain ⟨vt, vk, rs, h⟩ := h
  obtain ⟨ao, c, rfl, _⟩ := h.vkForm
  obtain ⟨_, _, c2, _⟩ := blk3 h.blk
  have HH := hid (has_any d s _ _ _ _ c2)
  rw [hs] at HH
  clear h
  go_enter Tryz.func41, Tryz.ntmps41
  go_wp2_with (go_at_call 59; refine HH.out.mono ?_; rintro e w' ⟨rfl, hw⟩; obtain rfl := hw.symm)
  go_ret2
  exact ⟨rfl, rfl⟩

set_option maxHeartbeats 400000 in
set_option maxRecDepth 100000 in
theorem deskLedger_no (d : Nat) (D : Dk) (s : Int) (w : World) (h : DeskAt F w d D) (hs : hasB s D.sks.length = false) :
    Calls Tryz.prog 44 #[.pointer (some ⟨d, 0, none⟩), .int .i64 s] w fun e w' => e = .returned (.tuple #[.agg #[.slice none 0 0, .int .i64 0, .int .i64 0], .int .i64 4]) ∧ Below w.heap.size w w' := by
  obtain ⟨vt, vk, rs, h⟩ := h
  obtain ⟨ao, c, rfl, _⟩ := h.vkForm
  obtain ⟨_, _, c2, _⟩ := blk3 h.blk
  have hdz := lt_of_blk' h.blk
  have c2' : (w.alloc (.cells #[.slice none 0 0, .int .i64 0, .int .i64 0] 97)).cell? ⟨d, 2, none⟩ = some (.slice ao D.sks.length c) := by rw [World.cell?_alloc_lt (h := hdz)]; exact c2
  have HH := hid (has_any d s _ _ _ _ c2')
  rw [hs] at HH
  clear h
  go_enter Tryz.func44, Tryz.ntmps44
  go_wp2_with (go_at_call 59; refine HH.out.mono ?_; rintro e w' ⟨rfl, hw⟩; obtain rfl := hw.symm)
  exact bodyPost_ret (v := .tuple #[.agg #[.slice none 0 0, .int .i64 0, .int .i64 0], .int .i64 4]) (by simp [results, Tryz.results44, go_sem]) rfl ⟨rfl, (Below.refl _ _).alloc (Nat.le_refl _) _⟩

set_option maxHeartbeats 400000 in
set_option maxRecDepth 100000 in
theorem deskRank_no (d : Nat) (D : Dk) (s q : Int) (w : World) (h : DeskAt F w d D) (hs : hasB s D.sks.length = false) :
    Calls Tryz.prog 46 #[.pointer (some ⟨d, 0, none⟩), .int .i64 s, .int .i64 q] w fun e w' => e = .returned (.tuple #[.agg #[.int .i64 0, .int .i64 0, .int .i64 0], .int .i64 4]) ∧ Below w.heap.size w w' := by
  obtain ⟨vt, vk, rs, h⟩ := h
  obtain ⟨ao, c, rfl, _⟩ := h.vkForm
  obtain ⟨_, _, c2, _⟩ := blk3 h.blk
  have hdz := lt_of_blk' h.blk
  have c2' : (w.alloc (.cells #[.int .i64 0, .int .i64 0, .int .i64 0] 103)).cell? ⟨d, 2, none⟩ = some (.slice ao D.sks.length c) := by rw [World.cell?_alloc_lt (h := hdz)]; exact c2
  have HH := hid (has_any d s _ _ _ _ c2')
  rw [hs] at HH
  clear h
  go_enter Tryz.func46, Tryz.ntmps46
  go_wp2_with (go_at_call 59; refine HH.out.mono ?_; rintro e w' ⟨rfl, hw⟩; obtain rfl := hw.symm)
  exact bodyPost_ret (v := .tuple #[.agg #[.int .i64 0, .int .i64 0, .int .i64 0], .int .i64 4]) (by simp [results, Tryz.results46, go_sem]) rfl ⟨rfl, (Below.refl _ _).alloc (Nat.le_refl _) _⟩

set_option maxHeartbeats 400000 in
theorem deskQuant_no (d : Nat) (D : Dk) (s r : Int) (w : World) (h : DeskAt F w d D) (hs : hasB s D.sks.length = false) :
    Calls Tryz.prog 48 #[.pointer (some ⟨d, 0, none⟩), .int .i64 s, .int .i64 r] w fun e w' => e = .returned (.tuple #[.int .i64 0, .int .i64 4]) ∧ w' = w := by
  obtain ⟨vt, vk, rs, h⟩ := h
  obtain ⟨ao, c, rfl, _⟩ := h.vkForm
  obtain ⟨_, _, c2, _⟩ := blk3 h.blk
  have HH := hid (has_any d s _ _ _ _ c2)
  rw [hs] at HH
  clear h
  go_enter Tryz.func48, Tryz.ntmps48
  go_wp2_with (go_at_call 59; refine HH.out.mono ?_; rintro e w' ⟨rfl, hw⟩; obtain rfl := hw.symm)
  go_ret2
  exact ⟨rfl, rfl⟩

end Go.Proofs.YtklicjbpjigfdabGreat
