/- DERIVED. The walks of among, ends, kept: what is kept is what came in. -/
import Derived.Test.YtklicjbpjigfdabQ14
import Derived.Test.YtklicjbpjigfdabQ9
import Derived.Test.YtklicjbpjigfdabQ15
import Derived.Test.YtklicjbpjigfdabDMergeW
import Derived.Test.YtklicjbpjigfdabQ10
import Derived.Test.YtklicjbpjigfdabQ13
import Derived.Deep.RegionWith
import Derived.Deep.DrawnRows
namespace Go.Proofs.Ytklicjbpjigfdab
open Go.RowKit
variable {K : Nat → Prop} {w0 : World} {nw : Nat} {G : Nat → Prop}

set_option maxHeartbeats 1000000 in
set_option maxRecDepth 100000 in
theorem among_any (p : Nat) (s : Sd) (vx vw vl : Value) (its : List Int) (w : World) (h : SideAt G w p s vx vw) (hl : s.xs.length ≤ 1099511627776) (hi : Ints w vl its) (hin : ∀ x ∈ its, x ∈ s.xs) (hr : Rising its) (hil : its.length ≤ 1099511627776) :
    Calls Try.prog 44 #[.pointer (some ⟨p, 0, none⟩), vl] w fun e w' => e = .returned (.bool true) ∧ ∃ n, w' = w.drewN n := by
  have HI := hid (fun (n : Nat) (x : Int) => in_any p s vx vw x (w.drewN n) (h.below ⟨rfl, rfl, rfl, Nat.le_refl _, fun _ _ => rfl⟩) hl)
  obtain ⟨ao, cc, rfl, hcl, hcm, hno, hso⟩ := hi.form
  have HIN := hid hin
  have HR := hid hr
  generalize hn : its.length = n at *
  have HN := hid hn
  have HNO := hid hno
  have HSO := hid hso
  clear h hi hno hso hn hin hr
  go_enter Try.func44, Try.ntmps44
  go_wp2_with fail
  go_loopw [5] (fun i wr => ∃ k q : Nat, k ≤ n ∧ i = .int .i64 k ∧ wr = w.drewN q) (fun i _ => n - (intOf i).toNat)
  case atStart => exact ⟨0, 0, Nat.zero_le _, rfl, rfl⟩
  case round =>
    obtain ⟨k, q, hk, rfl, rfl⟩ := hrel
    by_cases hlt : k < n
    · obtain ⟨gc, rfl⟩ : ∃ g, ao = some ⟨g, 0, none⟩ := by
        cases ao with
        | none => have := (HNO.out rfl).1; rw [this] at HN; have := HN.out; simp at this; omega
        | some a => obtain ⟨g, rfl, _⟩ := HSO.out a rfl; exact ⟨g, rfl⟩
      obtain ⟨gc', e1, hgc, hcc⟩ := HSO.out _ rfl
      cases e1
      have hcell := hcc k hlt
      have hmem : its.getD k 0 ∈ s.xs := HIN.out _ (by simp [List.getD, HN.out, hlt])
      have hI := hid (HI.out q (its.getD k 0))
      rw [decide_eq_true hmem] at hI
      by_cases hk0 : k = 0
      · subst hk0
        clear hcc hmem
        generalize its.getD 0 0 = y at *
        go_wp2_with fail
        refine hI.out.mono ?_
        rintro e w1 ⟨rfl, hw⟩
        obtain rfl := hw.symm
        go_wp2_with fail
        go_quiet (fail)
        go_wp2_with fail
        go_roundw
        case rel => exact ⟨1, q + nq, by omega, by go_num, rfl⟩
        case measure => simp [intOf]; omega
      · obtain ⟨j, rfl⟩ : ∃ j, k = j + 1 := ⟨k - 1, by omega⟩
        have hprev := hcc j (by omega)
        have hle := HR.out j (by rw [HN.out]; omega)
        clear hcc hmem
        generalize its.getD (j + 1) 0 = y at *
        generalize its.getD j 0 = z at *
        have hs1 : (0 : Int) ≤ ((j + 1 : Nat) : Int) - 1 := by omega
        have hs2 : ((j + 1 : Nat) : Int) - 1 < (n : Int) := by omega
        have hs3 : (((j + 1 : Nat) : Int) - 1).toNat = j := by omega
        have hg1 : decide ((0 : Int) < ((j + 1 : Nat) : Int)) = true := decide_eq_true (by omega)
        go_wp2_with fail
        refine hI.out.mono ?_
        rintro e w1 ⟨rfl, hw⟩
        obtain rfl := hw.symm
        go_wp2_with fail
        go_quiet (fail)
        go_wp2_with fail
        go_roundw
        case rel => exact ⟨j + 1 + 1, q + nq, by omega, by go_num, rfl⟩
        case measure => simp [intOf]; omega
    · go_wp2_with fail
      go_ret
      exact ⟨rfl, q, rfl⟩

/-- What holds of a sketch and of what came in. -/
structure Came (h : Hd) (s : Sd) : Prop where
  inok : InOk h s
  k : s.k = h.sk.k
  len : s.xs.length = s.ws.length
  sum : wAll s.ws = s.n
  lvok : LvOk s.xs h.sk.lv
  tn : tsum h.sk.lv + nsum h.sk.lv ≤ wsum h.sk.lv
  ends : s.n = 0 ∨ (h.sk.lo ∈ s.xs ∧ h.sk.hi ∈ s.xs ∧ ∀ x ∈ s.xs, h.sk.lo ≤ x ∧ x ≤ h.sk.hi)
  pos : ∀ v ∈ s.ws, 1 ≤ v

set_option maxHeartbeats 1000000 in
set_option maxRecDepth 100000 in
theorem ends_any (p d i : Nat) (ps : Nat → Nat) (W : Wd) (w : World) (h : WdSt K w0 w p d nw ps W) (hi : i < nw) (hl : W.D.sks.length = nw) (hc : Came (W.D.sks.getD i Hd.none) (W.sd i)) :
    Calls Try.prog 46 #[.pointer (some ⟨p, 0, none⟩), .int .i64 (i : Int)] w fun e w' => e = .returned (.bool true) ∧ Below w.heap.size w w' := by
  obtain ⟨own, vs, vx, vw, h, _⟩ := h
  obtain ⟨gs, cs0, evs, hptr⟩ := h.ptr hi
  obtain ⟨c0, c1, c2, c3, c4, c5, c6, cz⟩ := blk7 h.blk
  rw [evs] at c1
  have HE := hid (deskEnds d W.D i w h.desk (by rw [hl]; exact hi) hc.inok.ok)
  have HB := hid (fun (w' : World) (hb : Below w.heap.size w w') => below_any (ps i) (W.sd i) (vx i) (vw i) (W.D.sks.getD i Hd.none).sk.lo w' ((h.side i hi).below hb) (by have := hc.inok.xl; omega) (by rw [hc.sum, hc.inok.n]; have := hc.inok.ok.cnt; omega))
  have HU := hid (fun (w' : World) (hb : Below w.heap.size w w') => upTo_any (ps i) (W.sd i) (vx i) (vw i) (W.D.sks.getD i Hd.none).sk.hi w' ((h.side i hi).below hb) (by have := hc.inok.xl; omega) (by rw [hc.sum, hc.inok.n]; have := hc.inok.ok.cnt; omega))
  have HIL := hid (fun (w' : World) (hb : Below w.heap.size w w') => in_any (ps i) (W.sd i) (vx i) (vw i) (W.D.sks.getD i Hd.none).sk.lo w' ((h.side i hi).below hb) (by have := hc.inok.xl; omega))
  have HIH := hid (fun (w' : World) (hb : Below w.heap.size w w') => in_any (ps i) (W.sd i) (vx i) (vw i) (W.D.sks.getD i Hd.none).sk.hi w' ((h.side i hi).below hb) (by have := hc.inok.xl; omega))
  have hsb := (h.side i hi).blk
  rw [← hc.inok.n] at HE
  have HSB := hid hsb
  have hsz := lt_of_blk' hsb
  have HN0 := hid hc.ends
  have HSUM := hid hc.sum
  have HLEN := hid hc.len
  generalize hpi : ps i = pi at *
  generalize (W.D.sks.getD i Hd.none).sk.lo = lo at *
  generalize (W.D.sks.getD i Hd.none).sk.hi = hI at *
  clear h hsb hpi hc evs
  by_cases hn : (W.sd i).n = 0
  · rw [if_pos hn] at HE
    go_enter Try.func46, Try.ntmps46
    go_wp2_with fail
    refine HE.out.mono ?_
    rintro e w1 ⟨rfl, hb1⟩
    have hs1 := (hb1.block _ hsz).trans HSB.out
    obtain ⟨s0, s1, s2, s3, s4, s5, sz⟩ := blk6 hs1
    rw [hn] at s2
    have HB1 := hid hb1
    clear hb1 hs1
    go_wp2_with fail
    go_ret
    exact ⟨rfl, HB1.out⟩
  · rw [if_neg hn] at HE
    have hn' : (((W.sd i).n : Int) == 0) = false := by simpa using hn
    obtain ⟨m1, m2, m3⟩ : lo ∈ (W.sd i).xs ∧ hI ∈ (W.sd i).xs ∧ ∀ x ∈ (W.sd i).xs, lo ≤ x ∧ x ≤ hI := HN0.out.resolve_left hn
    rw [decide_eq_true m1] at HIL
    rw [decide_eq_true m2] at HIH
    have hbz : wFilter (fun x => decide (x < lo)) (W.sd i).xs (W.sd i).ws = 0 := wFilter_none _ _ _ (fun x hx => by have := m3 x hx; simp; omega)
    have hut : wFilter (fun x => decide (x ≤ hI)) (W.sd i).xs (W.sd i).ws = (W.sd i).n := by rw [← HSUM.out]; exact wFilter_all _ _ _ HLEN.out (fun x hx => by have := m3 x hx; simp; omega)
    rw [hbz] at HB
    rw [hut] at HU
    clear hbz hut m1 m2 m3 HN0
    generalize (W.sd i).n = sn at *
    go_enter Try.func46, Try.ntmps46
    go_wp2_with fail
    refine HE.out.mono ?_
    rintro e w1 ⟨rfl, hb1⟩
    have hs1 := (hb1.block _ hsz).trans HSB.out
    obtain ⟨s0, s1, s2, s3, s4, s5, sz⟩ := blk6 hs1
    have HB1 := hid hb1
    clear hb1 hs1
    go_wp2_with (first | (go_at_call 76; refine (HB.out _ HB1.out).mono ?_; rintro e w' ⟨rfl, hw⟩; obtain rfl := hw.symm) | (go_at_call 49; refine (HU.out _ HB1.out).mono ?_; rintro e w' ⟨rfl, hw⟩; obtain rfl := hw.symm) | (go_at_call_of 75 (Value.int IntKind.i64 lo); refine (HIL.out _ HB1.out).mono ?_; rintro e w' ⟨rfl, hw⟩; obtain rfl := hw.symm) | (go_at_call_of 75 (Value.int IntKind.i64 hI); refine (HIH.out _ HB1.out).mono ?_; rintro e w' ⟨rfl, hw⟩; obtain rfl := hw.symm))
    go_ret
    exact ⟨rfl, HB1.out⟩

set_option maxHeartbeats 2000000 in
set_option maxRecDepth 100000 in
theorem kept_any (p d i : Nat) (ps : Nat → Nat) (W : Wd) (w : World) (h : WdSt K w0 w p d nw ps W) (hi : i < nw) (hl : W.D.sks.length = nw) (hc : Came (W.D.sks.getD i Hd.none) (W.sd i)) :
    Calls Try.prog 15 #[.pointer (some ⟨p, 0, none⟩), .int .i64 (i : Int)] w fun e w' => e = .returned (.bool true) ∧ Below w.heap.size w w' := by
  have HST := hid h
  obtain ⟨own, vs, vx, vw, h, _⟩ := h
  obtain ⟨gs, cs0, evs, hptr⟩ := h.ptr hi
  obtain ⟨c0, c1, c2, c3, c4, c5, c6, cz⟩ := blk7 h.blk
  rw [evs] at c1
  have hil : i < W.D.sks.length := by rw [hl]; exact hi
  have HD := hid h.desk
  have HS := hid (deskSize d W.D i w h.desk hil hc.inok.ok)
  have HC := hid hc
  have HPB := hid h.blk
  have hpz := lt_of_blk' h.blk
  have HSD := hid (h.side i hi)
  have hsz := lt_of_blk' (h.side i hi).blk
  have hlen1 := hc.inok.ok.len1
  have hlen2 := hc.inok.ok.len
  have hcnt := hc.inok.ok.cnt
  have HKK := hid hc.k
  have HNN := hid hc.inok.n
  have HEN := hid (fun (w' : World) (hb : Below w.heap.size w w') => ends_any p d i ps W w' (HST.out.below hb) hi hl HC.out)
  have HLV := hid (fun (w' : World) (hb : Below w.heap.size w w') (j : Nat) (hj : j < (W.D.sks.getD i Hd.none).sk.lv.length) => deskLevel d W.D i j w' (HD.out.below hb) hil hj hc.inok.ok)
  have HLN := hid (fun (w' : World) (hb : Below w.heap.size w w') (hh : Int) (hno : hh < 0 ∨ ((W.D.sks.getD i Hd.none).sk.lv.length : Int) ≤ hh) => deskLevel_no d W.D i hh w' (HD.out.below hb) hil hno)
  have HAM := hid (fun (w' : World) (hb : Below w.heap.size w w') (vl : Value) (j : Nat) (hv : Ints w' vl ((W.D.sks.getD i Hd.none).sk.lv.getD j Lvl.none).items) (hln : ((W.D.sks.getD i Hd.none).sk.lv.getD j Lvl.none).items.length ≤ 268435456) => among_any (ps i) (W.sd i) (vx i) (vw i) vl _ w' ((h.side i hi).below hb) (by have := hc.inok.xl; omega) hv (hc.lvok.at j).2 (hc.lvok.at j).1.rising (by omega))
  have HIB : Hid (∀ j, j < (W.D.sks.getD i Hd.none).sk.lv.length → ((W.D.sks.getD i Hd.none).sk.lv.getD j Lvl.none).items.length ≤ 268435456) := fun j hj => by have := nsum_at hj; have := nsum_le (W.D.sks.getD i Hd.none).sk.lv; omega
  have hnsl := nsum_le (W.D.sks.getD i Hd.none).sk.lv
  generalize W.D.sks.getD i Hd.none = de at *
  generalize W.sd i = sd at *
  generalize ps i = pi at *
  generalize hlve : de.sk.lv = L at *
  generalize hlne : L.length = ln at *
  have HLN0 := hid hlne
  have g1 : ((de.sk.k : Int) != (de.sk.k : Int)) = false := by simp
  have g2 : ((wsum L : Int) != (wsum L : Int)) = false := by simp
  have g3 : decide ((ln : Int) < 1) = false := by simp; omega
  have g4 : decide ((29 : Int) < (ln : Int)) = false := by simp; omega
  clear h hc evs hlve hlne hil hl
  go_enter Try.func15, Try.ntmps15
  go_wp2_with fail
  refine HS.out.mono ?_
  rintro e w1 ⟨rfl, hb1⟩
  have hs1 := (hb1.block _ hsz).trans HSD.out.blk
  obtain ⟨s0, s1, s2, s3, s4, s5, sz⟩ := blk6 hs1
  rw [HKK.out] at s3
  rw [HNN.out] at s2
  have hp1 := (hb1.block _ hpz).trans HPB.out
  obtain ⟨q0, q1, q2, q3, q4, q5, q6, qz⟩ := blk7 hp1
  have HB1 := hid hb1
  have hz1 : pi < w1.heap.size := lt_of_blk' hs1
  have hz2 : p < w1.heap.size := lt_of_blk' hp1
  have HSB := hid hs1
  have HPB1 := hid hp1
  clear hb1 hs1 hp1
  go_wp2_with fail
  go_quiet (fail)
  go_wp2_with fail
  have hWB : Below w.heap.size w ((w1.alloc (.cells #[.int .i64 (de.sk.k : Int), .int .i64 (wsum L : Int), .int .i64 (nsum L : Int), .int .i64 (ln : Int)] 99)).drewN nq) := below_drewN (HB1.out.alloc HB1.out.size _) nq
  have hZB : ((w1.alloc (.cells #[.int .i64 (de.sk.k : Int), .int .i64 (wsum L : Int), .int .i64 (nsum L : Int), .int .i64 (ln : Int)] 99)).drewN nq).heap[w1.heap.size]? = some (.cells #[.int .i64 (de.sk.k : Int), .int .i64 (wsum L : Int), .int .i64 (nsum L : Int), .int .i64 (ln : Int)] 99 (0, 0)) := heap_alloc_new w1 _
  have hSB : ((w1.alloc (.cells #[.int .i64 (de.sk.k : Int), .int .i64 (wsum L : Int), .int .i64 (nsum L : Int), .int .i64 (ln : Int)] 99)).drewN nq).heap[pi]? = some _ := (Below.heap_alloc w1 _ pi hz1).trans HSB.out
  have hPB : ((w1.alloc (.cells #[.int .i64 (de.sk.k : Int), .int .i64 (wsum L : Int), .int .i64 (nsum L : Int), .int .i64 (ln : Int)] 99)).drewN nq).heap[p]? = some _ := (Below.heap_alloc w1 _ p hz2).trans HPB1.out
  generalize (w1.alloc (.cells #[.int .i64 (de.sk.k : Int), .int .i64 (wsum L : Int), .int .i64 (nsum L : Int), .int .i64 (ln : Int)] 99)).drewN nq = WB at *
  generalize w1.heap.size = zb at *
  have HWB := hid hWB
  have HZB := hid hZB
  have HSB2 := hid hSB
  have HPB2 := hid hPB
  have hzb := lt_of_blk' hZB
  have hpb := lt_of_blk' hPB
  have hsb := lt_of_blk' hSB
  clear hWB hZB hSB hPB s0 s1 s2 s3 s4 s5 sz q0 q1 q2 q3 q4 q5 q6 qz c0 c1 c2 c3 c4 c5 c6 cz HB1 HSB HPB1 hptr g1 g2 HPB HS
  go_loopw [8, 9, 10] (fun t8 t9 t10 wr => ∃ (j a1 a2 : Nat), j ≤ ln ∧ t10 = .int .i64 j ∧ t8 = .int .i64 a1 ∧ t9 = .int .i64 a2 ∧ Hid (a1 + nsum (L.drop j) = nsum L) ∧ Hid (a2 + 2 ^ j * wsum (L.drop j) = wsum L) ∧ Hid (Below WB.heap.size WB wr)) (fun _ _ t10 _ => ln - (intOf t10).toNat)
  case atStart => exact ⟨0, 0, 0, Nat.zero_le _, rfl, rfl, rfl, by simp [Hid], by simp [Hid], Below.refl _ _⟩
  case round =>
    obtain ⟨j, a1, a2, hj, rfl, rfl, rfl, Ha1, Ha2, Hb⟩ := hrel
    obtain ⟨z0, z1, z2, z3, zz⟩ := blk4 ((Hb.out.block _ hzb).trans HZB.out)
    obtain ⟨q0, q1, q2, q3, q4, q5, q6, qz⟩ := blk7 ((Hb.out.block _ hpb).trans HPB2.out)
    have hbw : Below w.heap.size w wr := HWB.out.trans (Hb.out.mono HWB.out.size)
    by_cases hlt : j < ln
    · have hlt' : j < L.length := by rw [HLN0.out]; exact hlt
      have hL1 := HLV.out wr hbw j (by first | exact hlt | exact hlt')
      have hib := HIB.out j (by first | exact hlt | exact hlt')
      have HS1 := hid (nsum_drop L j hlt')
      have HS2 := hid (wstep hlt' Ha2.out)
      have HP2 : Hid (2 ^ (j + 1) = 2 ^ j * 2) := Nat.pow_succ ..
      have HPW := hid (fun (w' : World) => power_any j w' (by omega))
      have b2 := pow2_bd (j := j) (by omega)
      have HL1 := hid hL1
      have HBW := hid hbw
      clear hL1 hbw q1 q2 q3 q4 q5 q6 qz
      go_wp2_with fail
      refine HL1.out.mono ?_
      rintro e w3 ⟨rfl, hi3, hb3⟩
      have hbw3 : Below w.heap.size w w3 := HBW.out.trans (hb3.mono HBW.out.size)
      have HA3 := hid (HAM.out w3 hbw3 _ j hi3 hib)
      have HB3 : Hid (Below WB.heap.size WB w3) := Hb.out.trans (hb3.mono Hb.out.size)
      clear hi3 hb3 hbw3
      generalize (L.getD j Lvl.none).items = its at *
      generalize hml : its.length = m at *
      generalize 2 ^ j = pw at *
      have hm1 : (a2 : Int) + (pw : Int) * (m : Int) ≤ 1099511627776 := by
        have := HS2.out
        rw [← Int.natCast_mul]
        generalize pw * m = pm at *
        omega
      have hm2 := mul_nn pw m
      have hm3 : a1 + m ≤ 1099511627776 := by have := Ha1.out; have := HS1.out; omega
      clear hml
      go_wp2_with fail
      refine HA3.out.mono ?_
      rintro e w4 ⟨rfl, nn, rfl⟩
      go_wp2_with (first | (go_at_call 45; refine (HPW.out _).mono ?_; rintro e w' ⟨rfl, hw⟩; obtain rfl := hw.symm))
      go_roundw
      case rel =>
        refine ⟨j + 1, a1 + m, a2 + pw * m, by omega, by go_num, by go_num, by rw [Int.natCast_add, Int.natCast_mul], ?_, ?_, below_drewN HB3.out _⟩
        · have := Ha1.out; have := HS1.out; unfold Hid; omega
        · rw [HP2.out]; exact HS2.out
      case measure => simp [intOf]; omega
    · have hjl : j = ln := by omega
      subst hjl
      have HE1 : Hid (a1 = nsum L) := by have := Ha1.out; rw [nsum_end L j (by rw [HLN0.out]; exact Nat.le_refl _)] at this; exact this
      have HE2 : Hid (a2 = wsum L) := by have := Ha2.out; rw [wsum_end L j (by rw [HLN0.out]; exact Nat.le_refl _)] at this; simpa [Hid] using this
      obtain ⟨s0, s1, s2, s3, s4, s5, sz⟩ := blk6 ((Hb.out.block _ hsb).trans HSB2.out)
      rw [HNN.out] at s2
      have HQ1 := hid (fun (n : Nat) => HLN.out (wr.drewN n) (below_drewN hbw n) (j : Int) (.inr (Int.le_refl _)))
      have HQ2 := hid (fun (n : Nat) => HLN.out (wr.drewN n) (below_drewN hbw n) (-1) (.inl (by omega)))
      have HEN2 := hid (fun (n : Nat) => HEN.out (wr.drewN n) (below_drewN hbw n))
      have HBW := hid hbw
      clear hbw s0 s1 s3 s4 s5 sz q1 q2 q3 q4 q5 q6 qz
      go_wp2_with fail
      go_quiet ((go_at_call 43; exact Calls.quiet_of_same (HQ1.out _)))
      go_wp2_with fail
      refine (HQ2.out nq).mono ?_
      rintro e w' ⟨rfl, hw⟩
      obtain rfl := hw.symm
      clear hw
      go_wp2_with fail
      refine (HEN2.out nq).mono ?_
      rintro e w5 ⟨rfl, hb5⟩
      have hb6 : Below wr.heap.size wr w5 := undrewN hb5
      have k2 := cell_later hb6 s2
      have k3 := cell_later hb6 z2
      have HB6 := hid hb6
      have ha : ((a1 : Int) == (nsum L : Int)) = true := by rw [HE1.out]; simp
      have hb : ((a2 : Int) == (wsum L : Int)) = true := by rw [HE2.out]; simp
      clear hb5 hb6 s2 z0 z1 z2 z3 zz
      go_wp2_with fail
      go_ret
      exact ⟨rfl, HBW.out.trans (HB6.out.mono HBW.out.size)⟩

end Go.Proofs.Ytklicjbpjigfdab

/- DERIVED. What holds of a sketch and of what came in goes on holding when a number comes in. -/
namespace Go.Proofs.Ytklicjbpjigfdab
open Go.RowKit

theorem put_facts {s : Sd} {x : Int} {wt : Nat} (hl : s.xs.length = s.ws.length) :
    (putXs s x).length = (putWs s x wt).length ∧ wAll (putWs s x wt) = wAll s.ws + wt ∧ x ∈ putXs s x ∧ (∀ y ∈ s.xs, y ∈ putXs s x) ∧ (∀ y ∈ putXs s x, y ∈ s.xs ∨ y = x) := by
  unfold putXs putWs
  cases hf : findAt x 0 s.xs with
  | none =>
    refine ⟨by simp [hl], wAll_snoc _ _, by simp, fun y hy => by simp [hy], fun y hy => ?_⟩
    rcases List.mem_append.1 hy with h | h
    · exact .inl h
    · exact .inr (by simpa using h)
  | some i =>
    obtain ⟨_, h2, h3⟩ := findAt_some hf
    have hx : x ∈ s.xs := by
      simp at h2 h3
      rw [← h3]
      simp [h2]
    exact ⟨by simp [hl], wAll_set (by rw [← hl]; simpa using h2), hx, fun y hy => hy, fun y hy => .inl hy⟩
theorem put_pos {s : Sd} {x : Int} {wt : Nat} (hw : 1 ≤ wt) (hp : ∀ v ∈ s.ws, 1 ≤ v) : ∀ v ∈ putWs s x wt, 1 ≤ v := by
  unfold putWs
  cases hf : findAt x 0 s.xs with
  | none =>
    intro v hv
    rcases List.mem_append.1 hv with h | h
    · exact hp v h
    · have : v = wt := by simpa using h
      omega
  | some i =>
    intro v hv
    rcases List.mem_or_eq_of_mem_set hv with h | rfl
    · exact hp v h
    · omega

theorem came_took {h : Hd} {s : Sd} {x : Int} {wt u : Nat} {cs : List Bool} {L' : List Lvl} (hc : Came h s) (hw1 : 1 ≤ wt) (hw2 : wt ≤ 268435456) (hfull : wsum h.sk.lv + wt ≤ 268435456) (hs : settle h.sk.k cs 0 (addL h x wt) = some (L', u)) :
    Came { sk := { k := h.sk.k, lv := L', lo := addLo h x, hi := addHi h x }, sealed := h.sealed, taken := h.taken } (s.took x wt) := by
  have hlt : wt < 2 ^ 29 := Nat.lt_of_le_of_lt hw2 (by decide)
  have e1 : wsum (addL h x wt) = wsum h.sk.lv + wt := by unfold addL; rw [withFrom_wsum hlt (Nat.zero_le _)]; simp
  have e2 : (addL h x wt).length ≤ 29 := withFrom_length hlt (Nat.zero_le _) hc.inok.ok.len (by omega)
  have e3 : h.sk.lv.length ≤ (addL h x wt).length := withFrom_length_ge (Nat.zero_le _)
  have e4 : tsum (addL h x wt) = tsum h.sk.lv := withFrom_tsum
  have e5 : nsum (addL h x wt) ≤ nsum h.sk.lv + wt := withFrom_nw (Nat.zero_le _)
  obtain ⟨k1, k2, k3, k4, k5⟩ := settle_keeps hs (by omega) e2
  obtain ⟨p1, p2, p3, p4, p5⟩ := put_facts (x := x) (wt := wt) hc.len
  have hpos := put_pos (x := x) hw1 hc.pos
  have htn := hc.tn
  have hn := hc.inok.n
  have hsum := hc.sum
  have hl1 := hc.inok.ok.len1
  have hwl := wAll_len hpos
  have hLw : LvOk (putXs s x) (addL h x wt) := LvOk.with p3 (hc.lvok.mono p4)
  refine ⟨⟨⟨hc.inok.ok.k1, hc.inok.ok.k2, ?_, k2, ?_, fun j => ?_⟩, ?_, k4, ?_, fun j => ?_⟩, hc.k, p1, ?_, hLw.settle hs, ?_, ?_, hpos⟩
  · show 1 ≤ L'.length; omega
  · show wsum L' ≤ _; omega
  · have := tsum_at L' j
    show (L'.getD j Lvl.none).times ≤ _
    omega
  · show s.n + wt = wsum L'; omega
  · show (putXs s x).length ≤ _; rw [p1]; omega
  · have := wAll_at (ws := putWs s x wt) (i := j)
    show (putWs s x wt).getD j 0 ≤ _
    omega
  · show wAll (putWs s x wt) = s.n + wt; omega
  · show tsum L' + nsum L' ≤ wsum L'; omega
  · right
    show addLo h x ∈ putXs s x ∧ addHi h x ∈ putXs s x ∧ ∀ y ∈ putXs s x, addLo h x ≤ y ∧ y ≤ addHi h x
    unfold addLo addHi widenLo widenHi
    rcases hc.ends with h0 | ⟨m1, m2, m3⟩
    · have hx0 : s.xs = [] := by
        have := wAll_len hc.pos
        have hl := hc.len
        exact List.eq_nil_of_length_eq_zero (by omega)
      have hw0 : wsum h.sk.lv = 0 := by omega
      rw [if_pos (.inl hw0), if_pos (.inl hw0)]
      refine ⟨p3, p3, fun y hy => ?_⟩
      rcases p5 y hy with hy | rfl
      · rw [hx0] at hy; simp at hy
      · omega
    · by_cases hw0 : wsum h.sk.lv = 0
      · have : s.xs = [] := by
          have := wAll_len hc.pos
          have hl := hc.len
          exact List.eq_nil_of_length_eq_zero (by omega)
        rw [this] at m1; simp at m1
      · refine ⟨?_, ?_, fun y hy => ?_⟩
        · split
          · exact p3
          · exact p4 _ m1
        · split
          · exact p3
          · exact p4 _ m2
        · rcases p5 y hy with hy | rfl
          · have := m3 y hy
            constructor
            · split <;> rename_i hc'
              · rcases hc' with h' | h' <;> omega
              · omega
            · split <;> rename_i hc'
              · rcases hc' with h' | h' <;> omega
              · omega
          · constructor
            · split <;> rename_i hc'
              · omega
              · omega
            · split <;> rename_i hc'
              · omega
              · omega

end Go.Proofs.Ytklicjbpjigfdab

/- DERIVED. What holds of sketches and of what came in goes on holding when a sketch comes into another. -/
namespace Go.Proofs.Ytklicjbpjigfdab
open Go.RowKit

/-- What the numbers of t make of side s. -/
structure PutN (s : Sd) (xs : List Int) (ws : List Nat) (r : Nat) (u : Sd) : Prop where
  len : u.xs.length = u.ws.length
  sum : wAll u.ws = wAll s.ws + wAll (ws.take r)
  old : ∀ y ∈ s.xs, y ∈ u.xs
  new : ∀ i, i < r → xs.getD i 0 ∈ u.xs
  mem : ∀ y ∈ u.xs, y ∈ s.xs ∨ y ∈ xs
  pos : ∀ v ∈ u.ws, 1 ≤ v
  flt : ∀ p : Int → Bool, wFilter p u.xs u.ws = wFilter p s.xs s.ws + wFilter p (xs.take r) (ws.take r)

theorem take_getD_int {xs : List Int} {r : Nat} (h : r < xs.length) : xs.take (r + 1) = xs.take r ++ [xs.getD r 0] := by
  rw [List.take_succ_eq_append_getElem h]; simp [List.getD, h]
theorem take_getD_nat {xs : List Nat} {r : Nat} (h : r < xs.length) : xs.take (r + 1) = xs.take r ++ [xs.getD r 0] := by
  rw [List.take_succ_eq_append_getElem h]; simp [List.getD, h]

theorem putN_facts {s : Sd} {xs : List Int} {ws : List Nat} (hl : s.xs.length = s.ws.length) (hp : ∀ v ∈ s.ws, 1 ≤ v) (hx : xs.length = ws.length) (hw : ∀ v ∈ ws, 1 ≤ v) : ∀ r, r ≤ xs.length → PutN s xs ws r (putN s xs ws r) := by
  intro r
  induction r with
  | zero => intro _; exact ⟨hl, by simp [putN, wAll], fun y hy => hy, fun i hi => by omega, fun y hy => .inl hy, hp, fun p => by simp [putN, wFilter]⟩
  | succ r ih =>
    intro hr
    obtain ⟨a1, a2, a3, a4, a5, a6, a7⟩ := ih (by omega)
    obtain ⟨p1, p2, p3, p4, p5⟩ := put_facts (x := xs.getD r 0) (wt := ws.getD r 0) a1
    have hwr : ws.getD r 0 ∈ ws := by
      have : ws.getD r 0 = ws[r]'(by omega) := by simp [List.getD, show r < ws.length by omega]
      rw [this]; exact List.getElem_mem _
    refine ⟨p1, ?_, fun y hy => p4 y (a3 y hy), fun i hi => ?_, fun y hy => ?_, put_pos (hw _ hwr) a6, fun p => ?_⟩
    · show wAll (putWs (putN s xs ws r) (xs.getD r 0) (ws.getD r 0)) = _
      rw [p2, a2, take_getD_nat (by omega), wAll_snoc]; omega
    · show xs.getD i 0 ∈ putXs (putN s xs ws r) (xs.getD r 0)
      by_cases e : i = r
      · subst e; exact p3
      · exact p4 _ (a4 i (by omega))
    · rcases p5 y hy with h | rfl
      · exact a5 y h
      · exact .inr (getD_mem (by omega))
    · show wFilter p (putXs (putN s xs ws r) (xs.getD r 0)) (putWs (putN s xs ws r) (xs.getD r 0) (ws.getD r 0)) = _
      rw [wFilter_put p a1, a7, take_getD_int (by omega), take_getD_nat (by omega), wFilter_snoc p _ _ _ _ (by simp [hx])]; omega

theorem Tall.merge {L T : List Lvl} (h : Tall L) (hT : Tall T) : Tall (mergeL L T) := by
  unfold Tall at *
  rw [mergeL_length, mergeL_wsum]
  by_cases e : L.length ≤ T.length
  · rw [Nat.max_eq_right e]; omega
  · rw [Nat.max_eq_left (by omega)]; omega

/-- Two sketches' Came make that of the one into which the other came. -/
theorem came_merged {a b : Hd} {s t : Sd} {u : Nat} {cs : List Bool} {L' : List Lvl} (ha : Came a s) (hb : Came b t) (hfull : wsum a.sk.lv + wsum b.sk.lv ≤ 268435456) (hs : settle (mgK a b) cs 0 (mgL a b) = some (L', u)) :
    Came { sk := { k := mgK a b, lv := L', lo := mgLo a b, hi := mgHi a b }, sealed := a.sealed, taken := a.taken } (s.all t) := by
  have e1 : wsum (mgL a b) = wsum a.sk.lv + wsum b.sk.lv := mergeL_wsum _ _
  have e2 : (mgL a b).length = max a.sk.lv.length b.sk.lv.length := mergeL_length _ _
  have e4 : tsum (mgL a b) = tsum a.sk.lv + tsum b.sk.lv := mergeL_tsum _ _
  have e5 : nsum (mgL a b) = nsum a.sk.lv + nsum b.sk.lv := mergeL_nsum _ _
  have la := ha.inok.ok.len
  have lb := hb.inok.ok.len
  have la1 := ha.inok.ok.len1
  obtain ⟨k1, k2, k3, k4, k5⟩ := settle_keeps hs (by omega) (by omega)
  obtain ⟨f1, f2, f3, f4, f5, f6, f7⟩ := putN_facts (s := s) ha.len ha.pos hb.len hb.pos t.xs.length (Nat.le_refl _)
  have f2' : wAll (putN s t.xs t.ws t.xs.length).ws = wAll s.ws + wAll t.ws := by
    rw [f2, hb.len, List.take_length]
  have hn : (putN s t.xs t.ws t.xs.length).n = s.n + t.n := by
    rw [putN_n s t.xs t.ws t.xs.length (by rw [hb.len]; exact Nat.le_refl _), hb.len, List.take_length, hb.sum]
  have f4' : ∀ y ∈ t.xs, y ∈ (putN s t.xs t.ws t.xs.length).xs := by
    intro y hy
    obtain ⟨i, hi, rfl⟩ := List.mem_iff_getElem.1 hy
    have := f4 i hi
    simpa [List.getD, hi] using this
  have tna := ha.tn
  have tnb := hb.tn
  have na := ha.inok.n
  have nb := hb.inok.n
  have sa := ha.sum
  have sb := hb.sum
  have hLw : LvOk (putN s t.xs t.ws t.xs.length).xs (mgL a b) := LvOk.merge (ha.lvok.mono f3) (hb.lvok.mono f4')
  have hwl := wAll_len f6
  have ka1 := ha.inok.ok.k1
  have ka2 := ha.inok.ok.k2
  have kb1 := hb.inok.ok.k1
  have kb2 := hb.inok.ok.k2
  have hk : (if t.k < s.k then t.k else s.k) = mgK a b := by rw [ha.k, hb.k]; rfl
  have hk1 : 2 ≤ mgK a b := by unfold mgK mergeK; split <;> omega
  have hk2 : mgK a b ≤ 64 := by unfold mgK mergeK; split <;> omega
  refine ⟨⟨⟨hk1, hk2, ?_, k2, ?_, fun j => ?_⟩, ?_, k4, ?_, fun j => ?_⟩, hk, f1, ?_, hLw.settle hs, ?_, ?_, f6⟩
  · show 1 ≤ L'.length; omega
  · show wsum L' ≤ _; omega
  · have := tsum_at L' j
    show (L'.getD j Lvl.none).times ≤ _
    omega
  · show (putN s t.xs t.ws t.xs.length).n = wsum L'; omega
  · show (putN s t.xs t.ws t.xs.length).xs.length ≤ _; rw [f1]; omega
  · have := wAll_at (ws := (putN s t.xs t.ws t.xs.length).ws) (i := j)
    show (putN s t.xs t.ws t.xs.length).ws.getD j 0 ≤ _
    omega
  · show wAll (putN s t.xs t.ws t.xs.length).ws = (putN s t.xs t.ws t.xs.length).n; omega
  · show tsum L' + nsum L' ≤ wsum L'; omega
  · show (putN s t.xs t.ws t.xs.length).n = 0 ∨ (mgLo a b ∈ (putN s t.xs t.ws t.xs.length).xs ∧ mgHi a b ∈ (putN s t.xs t.ws t.xs.length).xs ∧ ∀ x ∈ (putN s t.xs t.ws t.xs.length).xs, mgLo a b ≤ x ∧ x ≤ mgHi a b)
    have sempty : ∀ {h : Hd} {s : Sd}, Came h s → s.n = 0 → s.xs = [] := fun hc h0 => by
      have := wAll_len hc.pos
      have h1 := hc.len
      have h2 := hc.sum
      exact List.eq_nil_of_length_eq_zero (by omega)
    unfold mgLo mgHi mergeLo mergeHi widenLo widenHi
    by_cases hb0 : t.n = 0
    · have htx := sempty hb hb0
      have hwb : ¬ 0 < wsum b.sk.lv := by omega
      rw [if_neg hwb, if_neg hwb]
      rcases ha.ends with h0 | ⟨m1, m2, m3⟩
      · left; omega
      · right
        refine ⟨f3 _ m1, f3 _ m2, fun x hx => ?_⟩
        rcases f5 x hx with h | h
        · exact m3 x h
        · rw [htx] at h; simp at h
    · have hwb : 0 < wsum b.sk.lv := by omega
      rw [if_pos hwb, if_pos hwb]
      right
      rcases hb.ends with h0 | ⟨q1, q2, q3⟩
      · exact absurd h0 hb0
      · by_cases ha0 : s.n = 0
        · have hsx := sempty ha ha0
          have hwa : wsum a.sk.lv = 0 := by omega
          rw [if_pos (.inl hwa), if_pos (.inl hwa)]
          refine ⟨f4' _ q1, f4' _ q2, fun x hx => ?_⟩
          rcases f5 x hx with h | h
          · rw [hsx] at h; simp at h
          · exact q3 x h
        · have hwa : wsum a.sk.lv ≠ 0 := by omega
          rcases ha.ends with h0 | ⟨m1, m2, m3⟩
          · exact absurd h0 ha0
          · refine ⟨?_, ?_, fun x hx => ?_⟩
            · split
              · exact f4' _ q1
              · exact f3 _ m1
            · split
              · exact f4' _ q2
              · exact f3 _ m2
            · rcases f5 x hx with h | h
              · have := m3 x h
                constructor
                · split <;> rename_i hc'
                  · rcases hc' with h' | h' <;> omega
                  · omega
                · split <;> rename_i hc'
                  · rcases hc' with h' | h' <;> omega
                  · omega
              · have := q3 x h
                constructor
                · split <;> rename_i hc'
                  · omega
                  · have : ¬ b.sk.lo < a.sk.lo := fun h' => hc' (.inr h')
                    omega
                · split <;> rename_i hc'
                  · omega
                  · have : ¬ a.sk.hi < b.sk.hi := fun h' => hc' (.inr h')
                    omega

end Go.Proofs.Ytklicjbpjigfdab

/- DERIVED. The walk of the statement's own all: all of a side comes into another, or into itself. -/
namespace Go.Proofs.Ytklicjbpjigfdab
open Go.RowKit
attribute [local go_sem ↓] Go.wp_at_zero Go.wp_at_succ
variable {K : Nat → Prop} {w0 : World} {nw : Nat}

/-- Side i has turned. -/
def Wd.side (W : Wd) (i : Nat) (s : Sd) : Wd := { W with sd := fun a => if a = i then s else W.sd a }
theorem Wd.side_same (W : Wd) (i : Nat) : W.side i (W.sd i) = W := by
  unfold Wd.side
  have : (fun a => if a = i then W.sd i else W.sd a) = W.sd := by
    funext a; split
    · rename_i e; rw [e]
    · rfl
  rw [this]
theorem Wd.side_side (W : Wd) (i : Nat) (s t : Sd) : (W.side i s).side i t = W.side i t := by
  unfold Wd.side
  simp only [Wd.mk.injEq, and_true, true_and]
  funext a
  by_cases e : a = i <;> simp [e]
theorem Wd.side_at (W : Wd) (i : Nat) (s : Sd) : (W.side i s).sd i = s := by simp [Wd.side]

theorem WdSt.setOnes {w : World} {p d m i : Nat} {W : Wd} {ps : Nat → Nat} (h : WdSt K w0 w p d m ps W) (hi : i < m) (o : Bool) : WdSt K w0 (w.setCell ⟨ps i, 4, none⟩ (.bool o)) p d m ps (W.side i { W.sd i with ones := o }) := by
  obtain ⟨own, vs, vx, vw, h, h2K, hk⟩ := h
  exact sd_set4 h hi h2K hk o
theorem WdSt.setK {w : World} {p d m i : Nat} {W : Wd} {ps : Nat → Nat} (h : WdSt K w0 w p d m ps W) (hi : i < m) (k : Nat) : WdSt K w0 (w.setCell ⟨ps i, 3, none⟩ (.int .i64 (k : Int))) p d m ps (W.side i { W.sd i with k := k }) := by
  obtain ⟨own, vs, vx, vw, h, h2K, hk⟩ := h
  have hs := h.side i hi
  have hf : Fr (fun b => own b = 2 + i) w (w.setCell ⟨ps i, 3, none⟩ (.int .i64 (k : Int))) := (Fr.refl _ w).set (fun _ => hs.gp) _
  have hkI : IntsKept w (w.setCell ⟨ps i, 3, none⟩ (.int .i64 (k : Int))) := IntsKept.set hs.blk (by decide)
  refine h.sideStep hi (vx' := vx i) (vw' := vw i) ⟨?_, ⟨.inl hs.gp, by rw [setCell_size]; exact lt_of_blk' hs.blk⟩, hs.ix.kept hkI, hs.iw.kept hkI, fun b e => ⟨.inl (hs.gx b e), by rw [setCell_size]; exact ownsRow_lt hs.ix e⟩, fun b e => ⟨.inl (hs.gw b e), by rw [setCell_size]; exact ownsRow_lt hs.iw e⟩, hs.ne, hs.len⟩ hf h2K hk
  have := blk_set (i := 3) (.int .i64 (k : Int)) hs.blk
  simpa using this

theorem wput_any (p d i wt : Nat) (x : Int) (ps : Nat → Nat) (W : Wd) (w : World) (h : WdSt K w0 w p d nw ps W) (hi : i < nw) (hl : (W.sd i).xs.length ≤ 1099511627776) (hn : (W.sd i).n + wt ≤ 1099511627776) (hws : ∀ j, (W.sd i).ws.getD j 0 ≤ 1099511627776) :
    Calls Try.prog 70 #[.pointer (some ⟨ps i, 0, none⟩), .int .i64 x, .int .i64 (wt : Int)] w fun e w' => e = .returned (.tuple #[]) ∧ WdSt K w0 w' p d nw ps (W.side i ((W.sd i).put x wt)) := by
  obtain ⟨own, vs, vx, vw, h, h2K, hk⟩ := h
  refine (put_any (ps i) (W.sd i) (vx i) (vw i) x wt w (h.side i hi) hl hn hws (fun b hb => h.lt b (by omega))).mono ?_
  rintro e w3 ⟨rfl, vx3, vw3, hs3, hf3⟩
  exact ⟨rfl, h.sideStep hi hs3 hf3 h2K hk⟩

/-- A list of the call's own is nobody's. -/
theorem WdAt.local {own : Nat → Nat} {w w2 : World} {p d m : Nat} {W : Wd} {ps : Nat → Nat} {vs : Value} {vx vw : Nat → Value} (h : WdAt own w p d m W ps vs vx vw) (h2K : ∀ b, K b → own b = 0 ∧ b < w0.heap.size) (hk : Keeps K w0 w) (hb : Below w.heap.size w w2) (hg : w.heap.size < w2.heap.size) : WdSt (fun b => K b ∨ b = w.heap.size) w2 w2 p d m ps W := by
  refine ⟨own, vs, vx, vw, h.below hb, fun b e => ?_, Keeps.refl _ _⟩
  rcases e with e | rfl
  · exact ⟨(h2K b e).1, Nat.lt_of_lt_of_le (h2K b e).2 (Nat.le_trans hk.size hb.size)⟩
  · exact ⟨Decidable.byContradiction fun hn => by have := h.lt _ hn; omega, hg⟩
theorem WdSt.back {w2 w' : World} {g p d m : Nat} {W : Wd} {ps : Nat → Nat} (h : WdSt (fun b => K b ∨ b = g) w2 w' p d m ps W) (hk : Keeps K w0 w2) (hK : ∀ b, K b → b < w0.heap.size) : WdSt K w0 w' p d m ps W := by
  obtain ⟨own, vs, vx, vw, h, h2K, hk'⟩ := h
  exact ⟨own, vs, vx, vw, h, fun b e => ⟨(h2K b (.inl e)).1, hK b e⟩, ⟨hk'.os.trans hk.os, hk'.tape.trans hk.tape, hk'.output.trans hk.output, Nat.le_trans hk.size hk'.size, fun b e => (hk'.block b (.inl e)).trans (hk.block b e)⟩⟩

set_option maxHeartbeats 2000000 in
set_option maxRecDepth 100000 in
theorem all_any (p d i j : Nat) (a b : Hd) (ps : Nat → Nat) (W : Wd) (w : World) (h : WdSt K w0 w p d nw ps W) (hi : i < nw) (hj : j < nw) (ci : Came a (W.sd i)) (cj : Came b (W.sd j)) :
    Calls Try.prog 36 #[.pointer (some ⟨ps i, 0, none⟩), .pointer (some ⟨ps j, 0, none⟩)] w fun e w' => e = .returned (.tuple #[]) ∧ WdSt K w0 w' p d nw ps (W.side i ((W.sd i).all (W.sd j))) := by
  obtain ⟨own, vs, vx, vw, h, h2K, hk⟩ := h
  have hsj := h.side j hj
  obtain ⟨c0, c1, c2, c3, c4, c5, cz⟩ := blk6 hsj.blk
  have hnl : (nats (W.sd j).ws).length = (W.sd j).xs.length := by simp [nats, hsj.len]
  obtain ⟨ao, cc, ex, hcl, hcm, hno, hso⟩ := hsj.ix.form
  obtain ⟨bo, cb, ew, hcl2, hcm2, hno2, hso2⟩ := hsj.iw.form
  rw [ex] at c0
  rw [ew, hnl] at c1
  have HIW := hid hsj.iw
  rw [ew, hnl] at HIW
  have hxb : (W.sd j).xs.length ≤ 1099511627 := cj.inok.xl
  have HH := hid h
  have H2 := hid h2K
  have HK := hid hk
  have hjz := lt_of_blk' hsj.blk
  obtain ⟨i0, hi0, hz0, hz1, hz2⟩ := info_parts Try.infoInt
  generalize hn : (W.sd j).xs.length = n at *
  have HN := hid hn
  have HNL := hid hnl
  have CI := hid ci
  have CJ := hid cj
  clear h h2K hk hsj ex ew hno hso hno2 hso2 hn hnl ci cj c2 c3 c4 c5
  go_enter Try.func36, Try.ntmps36
  go_wp2_with (first | (at_make; refine wpList_make_full _ rfl _ _ 91 rfl w.heap.size 3 i0 (.int .i64 0) 1 Try.underlying91 hi0 hz0 hz1 _ _ _ _ n rfl rfl (by rfl) (by rfl) (by rw [hz2]; omega) (by unfold maxLen; omega) (Nat.le_refl _) ?_; intro w1 hown1 hgrow1; have hb1 : Below w.heap.size w w1 := (Below.refl _ _).grown hgrow1 (Nat.le_refl _) (fun k h => by cases h); have p1 := cell_later hb1 c1; have HB1 := hid hb1; obtain ⟨w2, hrun, hown2, hgrow2⟩ := run_copy_ints w1 i0 hi0 hz1 hown1 (HIW.out.below hb1) HNL.out.symm; have HO2 := hid hown2; have HG2 := hid hgrow2; clear hown1 hgrow1 hb1 hown2 hgrow2))
  have hb2 : Below w.heap.size w w2 := HB1.out.grown HG2.out HB1.out.size (fun k h => by cases h; exact Nat.le_refl _)
  have hI2 : Ints w2 (.slice (some ⟨w.heap.size, 0, none⟩) n n) (nats (W.sd j).ws) := Ints.of HO2.out
  have hgz : w.heap.size < w2.heap.size := ownsRow_lt hI2 rfl
  have hst2 := HH.out.local H2.out HK.out hb2 hgz
  have HKB : Hid (Keeps K w0 w2) := HK.out.below hb2 (fun b e => (H2.out b e).2)
  have HKL : Hid (∀ b, K b → b < w0.heap.size) := fun b e => (H2.out b e).2
  have HI2 := hid hI2
  have HST2 : Hid (WdSt (fun b => K b ∨ b = w.heap.size) w2 w2 p d nw ps (W.side i (putN (W.sd i) (W.sd j).xs (W.sd j).ws 0))) := by
    show WdSt _ _ _ _ _ _ _ (W.side i (W.sd i))
    rw [Wd.side_same]; exact hst2
  have HPF := hid (fun r hr => putN_facts CI.out.len CI.out.pos CJ.out.len CJ.out.pos r (by rw [HN.out]; exact hr))
  generalize hg0 : w.heap.size = g0 at *
  clear hb2 hI2 hst2 p1 c0 c1 HB1 HO2 HG2 hrun HH H2 HK HIW cz hjz hg0
  go_loopw [6] (fun si wr => ∃ r : Nat, si = .int .i64 r ∧ r ≤ n ∧ Hid (WdSt (fun b => K b ∨ b = g0) w2 wr p d nw ps (W.side i (putN (W.sd i) (W.sd j).xs (W.sd j).ws r)))) (fun si _ => n - (intOf si).toNat)
  case atStart => exact ⟨0, rfl, Nat.zero_le _, HST2⟩
  case round =>
    obtain ⟨r, rfl, hrn, Hst⟩ := hrel
    clear HST2
    obtain ⟨own1, vs1, vx1, vw1, h1, h2K1, hk1⟩ := Hst.out
    have hsj := h1.side j hj
    have hsi := h1.side i hi
    rw [Wd.side_at] at hsi
    have hxj : ((W.side i (putN (W.sd i) (W.sd j).xs (W.sd j).ws r)).sd j).xs = (W.sd j).xs := by
      show (if j = i then putN (W.sd i) (W.sd j).xs (W.sd j).ws r else W.sd j).xs = _
      split
      · rename_i e; rw [← e]; exact putN_self _ _ r (by rw [HN.out]; exact hrn)
      · rfl
    have hrest := putN_rest (W.sd i) (W.sd j).xs (W.sd j).ws r
    have hkj : ((W.side i (putN (W.sd i) (W.sd j).xs (W.sd j).ws r)).sd j).k = (W.sd j).k ∧ ((W.side i (putN (W.sd i) (W.sd j).xs (W.sd j).ws r)).sd j).ones = (W.sd j).ones := by
      show (if j = i then putN (W.sd i) (W.sd j).xs (W.sd j).ws r else W.sd j).k = _ ∧ (if j = i then putN (W.sd i) (W.sd j).xs (W.sd j).ws r else W.sd j).ones = _
      split
      · rename_i e; rw [hrest.1, hrest.2.1, e]; exact ⟨rfl, rfl⟩
      · exact ⟨rfl, rfl⟩
    obtain ⟨c0, c1, c2, c3, c4, c5, cz⟩ := blk6 hsj.blk
    obtain ⟨d0, d1, d2, d3, d4, d5, dz⟩ := blk6 hsi.blk
    rw [hrest.1] at d3
    rw [hrest.2.1] at d4
    rw [hkj.1] at c3
    rw [hkj.2] at c4
    have hix := hsj.ix
    rw [hxj] at hix
    obtain ⟨ao1, cc1, ex, hcl1, hcm1, hno, hso⟩ := hix.form
    rw [ex, HN.out] at c0
    have hI3 : Ints wr (.slice (some ⟨g0, 0, none⟩) n n) (nats (W.sd j).ws) := HI2.out.block (fun b hb => by simp [Value.ownBlock] at hb; subst hb; exact hk1.block _ (.inr rfl))
    by_cases hlt : r < n
    · obtain ⟨gc, rfl⟩ : ∃ g, ao1 = some ⟨g, 0, none⟩ := by
        cases ao1 with
        | none => have h9 := (hno rfl).1; have h8 := HN.out; rw [h9] at h8; simp at h8; omega
        | some a => obtain ⟨g, rfl, _⟩ := hso a rfl; exact ⟨g, rfl⟩
      obtain ⟨gc', e1, hgc, hcc⟩ := hso _ rfl
      cases e1
      have hcell := hcc r (by rw [HN.out]; exact hlt)
      obtain ⟨ao2, cc2, ex2, _, _, _, hso2⟩ := hI3.form
      rw [HNL.out] at ex2 hso2
      cases ex2
      obtain ⟨gd', e2, hgd, hcd⟩ := hso2 _ rfl
      cases e2
      have hcell2 := hcd r hlt
      rw [nats_getD] at hcell2
      have hs1 : (0 : Int) ≤ (r : Int) := by omega
      have hs2 : (r : Int) < (n : Int) := by omega
      obtain ⟨f1, f2, f3, f4, f5, f6, f7⟩ := HPF.out r hrn
      have hnn := putN_n (W.sd i) (W.sd j).xs (W.sd j).ws r (by rw [← CJ.out.len, HN.out]; exact hrn)
      have hta := wAll_take_le (W.sd j).ws r
      have hwr : (W.sd j).ws.getD r 0 ≤ 268435456 := CJ.out.inok.wl r
      have hbi : (W.sd i).n ≤ 268435456 := by rw [CI.out.inok.n]; exact CI.out.inok.ok.cnt
      have hbj : (W.sd j).n ≤ 268435456 := by rw [CJ.out.inok.n]; exact CJ.out.inok.ok.cnt
      have hsi9 := CI.out.sum
      have hsj9 := CJ.out.sum
      have hlen9 := putN_len (W.sd i) (W.sd j).xs (W.sd j).ws r
      have hxi9 := CI.out.inok.xl
      have HPU := hid (fun (wx : World) (hx : WdSt (fun b => K b ∨ b = g0) w2 wx p d nw ps (W.side i (putN (W.sd i) (W.sd j).xs (W.sd j).ws r))) => wput_any p d i ((W.sd j).ws.getD r 0) ((W.sd j).xs.getD r 0) ps _ wx hx hi (by rw [Wd.side_at]; omega) (by rw [Wd.side_at]; omega) (fun t => by rw [Wd.side_at]; have := wAll_at (ws := (putN (W.sd i) (W.sd j).xs (W.sd j).ws r).ws) (i := t); omega))
      have HST := hid Hst.out
      have HPE : Hid ((W.side i (putN (W.sd i) (W.sd j).xs (W.sd j).ws r)).side i (((W.side i (putN (W.sd i) (W.sd j).xs (W.sd j).ws r)).sd i).put ((W.sd j).xs.getD r 0) ((W.sd j).ws.getD r 0)) = W.side i (putN (W.sd i) (W.sd j).xs (W.sd j).ws (r + 1))) := by
        rw [Wd.side_at, Wd.side_side]; rfl
      rw [HPE.out] at HPU
      generalize W.side i (putN (W.sd i) (W.sd j).xs (W.sd j).ws r) = W1 at *
      generalize hW2 : W.side i (putN (W.sd i) (W.sd j).xs (W.sd j).ws (r + 1)) = W2 at *
      have HW2 := hid hW2
      generalize (W.sd j).ws.getD r 0 = wt at *
      generalize (W.sd j).xs.getD r 0 = xr at *
      clear Hst h1 h2K1 hk1 hsj hsi hxj hkj hix ex hno hso hcc hcd hso2 f1 f2 f3 f4 f5 f6 f7 hnn hta c1 c2 c3 c4 c5 d0 d1 d2 d3 d4 d5 hrest HPE hsi9 hsj9 hlen9 hxi9 hW2
      go_wp2_with fail
      go_region_with (first | (go_at_call 70; refine (HPU.out _ ?_).mono ?_; exact HST.out.drew; rintro e w3 ⟨rfl, hpost⟩))
      all_goals
        have HPO := hid hpost
        clear hpost
        go_wp2_with fail
        go_roundw
        case rel => exact ⟨r + 1, by go_num, by omega, by rw [HW2.out]; exact HPO⟩
        case measure => simp [intOf]; omega
    · have hrn' : r = n := by omega
      subst hrn'
      have HST := hid Hst.out
      have HEQ : Hid ((W.sd i).all (W.sd j) = { putN (W.sd i) (W.sd j).xs (W.sd j).ws r with k := if (W.sd j).k < (W.sd i).k then (W.sd j).k else (W.sd i).k, ones := (W.sd i).ones && (W.sd j).ones }) := by rw [← HN.out]; rfl
      have HRE := hid hrest
      generalize hW1 : W.side i (putN (W.sd i) (W.sd j).xs (W.sd j).ws r) = W1 at *
      have HW1 := hid hW1
      have HSD : Hid (W1.sd i = putN (W.sd i) (W.sd j).xs (W.sd j).ws r) := by rw [← hW1]; exact Wd.side_at _ _ _
      generalize hki : (W.sd i).k = ki at *
      generalize hkj9 : (W.sd j).k = kj at *
      generalize hoi : (W.sd i).ones = oi at *
      generalize hoj : (W.sd j).ones = oj at *
      have hFin : ∀ (q k : Nat) (o : Bool), (k = if kj < ki then kj else ki) → o = (oi && oj) → WdSt K w0 (((wr.drewN q).setCell ⟨ps i, 3, none⟩ (.int .i64 (k : Int))).setCell ⟨ps i, 4, none⟩ (.bool o)) p d nw ps (W.side i ((W.sd i).all (W.sd j))) := by
        intro q k o hk ho
        have h8 := (((HST.out.drewN (n := q)).setK hi k).setOnes hi o).back HKB.out HKL.out
        rw [Wd.side_at, Wd.side_side, HSD.out, ← HW1.out, Wd.side_side] at h8
        rw [HEQ.out, ← hk, ← ho]
        exact h8
      have hFin2 : ∀ (q : Nat) (o : Bool), ¬ kj < ki → o = (oi && oj) → WdSt K w0 ((wr.drewN q).setCell ⟨ps i, 4, none⟩ (.bool o)) p d nw ps (W.side i ((W.sd i).all (W.sd j))) := by
        intro q o hk ho
        have h8 := ((HST.out.drewN (n := q)).setOnes hi o).back HKB.out HKL.out
        rw [HSD.out, ← HW1.out, Wd.side_side] at h8
        rw [HEQ.out, if_neg hk, ← ho]
        have h9 := HRE.out.1
        have e : ({ putN (W.sd i) (W.sd j).xs (W.sd j).ws r with k := ki, ones := o } : Sd) = { putN (W.sd i) (W.sd j).xs (W.sd j).ws r with ones := o } := by rw [← h9]
        rw [e]; exact h8
      have HFI := hid hFin
      have HF2 := hid hFin2
      clear hFin hFin2 Hst h1 h2K1 hk1 hsj hsi hxj hkj hix ex hno hso hrest hW1 hki hkj9 hoi hoj c0 c1 c2 c5 d0 d1 d2 d5 HEQ HRE
      clear hrn hlt
      by_cases hkk : kj < ki
      · have hkk' : decide ((kj : Int) < (ki : Int)) = true := by simp; omega
        cases oi
        · go_wp2_with fail
          go_quiet (fail)
          go_wp2_with fail
          go_end0
          exact ⟨rfl, HFI.out _ kj false (by rw [if_pos hkk]) rfl⟩
        · go_wp2_with fail
          go_quiet (fail)
          go_wp2_with fail
          go_end0
          exact ⟨rfl, HFI.out _ kj oj (by rw [if_pos hkk]) (by simp)⟩
      · have hkk' : decide ((kj : Int) < (ki : Int)) = false := by simp; omega
        cases oi
        · go_wp2_with fail
          go_quiet (fail)
          go_wp2_with fail
          go_end0
          exact ⟨rfl, HF2.out _ false hkk rfl⟩
        · go_wp2_with fail
          go_quiet (fail)
          go_wp2_with fail
          go_end0
          exact ⟨rfl, HF2.out _ oj hkk (by simp)⟩

end Go.Proofs.Ytklicjbpjigfdab
