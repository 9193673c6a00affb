/- DERIVED. The walks of among, ends, kept: what is kept is what came in. -/
import Derived.Test.YtklicjbpjigfdabNb
import Derived.Test.YtklicjbpjigfdabCameP
namespace Go.Proofs.Ytklicjbpjigfdab
open Go.RowKit
variable {K : Nat → Prop} {w0 : World} {nw : Nat} {G : Nat → Prop}

set_option maxHeartbeats 1000000 in
set_option maxRecDepth 100000 in
theorem among_any (p : Nat) (s : Sd) (vx vw vl : Value) (its : List Int) (w : World) (h : SideAt G w p s vx vw) (hl : s.xs.length ≤ 1099511627776) (hi : Ints w vl its) (hin : ∀ x ∈ its, x ∈ s.xs) (hr : Rising its) (hil : its.length ≤ 1099511627776) :
    Calls Try.prog 44 #[.pointer (some ⟨p, 0, none⟩), vl] w fun e w' => e = .returned (.bool true) ∧ ∃ n, w' = w.drewN n := by
  have HI := hid (fun (n : Nat) (x : Int) => in_any p s vx vw x (w.drewN n) (h.below ⟨rfl, rfl, rfl, Nat.le_refl _, fun _ _ => rfl⟩) hl)
  obtain ⟨ao, cc, rfl, hcl, hcm, hno, hso⟩ := hi.form
  have HIN := hid hin
  have HR := hid hr
  generalize hn : its.length = n at *
  have HN := hid hn
  have HNO := hid hno
  have HSO := hid hso
  clear h hi hno hso hn hin hr
  go_enter Try.func44, Try.ntmps44
  go_wp2_with fail
  go_loopw [5] (fun i wr => ∃ k q : Nat, k ≤ n ∧ i = .int .i64 k ∧ wr = w.drewN q) (fun i _ => n - (intOf i).toNat)
  case atStart => exact ⟨0, 0, Nat.zero_le _, rfl, rfl⟩
  case round =>
    obtain ⟨k, q, hk, rfl, rfl⟩ := hrel
    by_cases hlt : k < n
    · obtain ⟨gc, rfl⟩ : ∃ g, ao = some ⟨g, 0, none⟩ := by
        cases ao with
        | none => have := (HNO.out rfl).1; rw [this] at HN; have := HN.out; simp at this; omega
        | some a => obtain ⟨g, rfl, _⟩ := HSO.out a rfl; exact ⟨g, rfl⟩
      obtain ⟨gc', e1, hgc, hcc⟩ := HSO.out _ rfl
      cases e1
      have hcell := hcc k hlt
      have hmem : its.getD k 0 ∈ s.xs := HIN.out _ (by simp [List.getD, HN.out, hlt])
      have hI := hid (HI.out q (its.getD k 0))
      rw [decide_eq_true hmem] at hI
      by_cases hk0 : k = 0
      · subst hk0
        clear hcc hmem
        generalize its.getD 0 0 = y at *
        go_wp2_with fail
        refine hI.out.mono ?_
        rintro e w1 ⟨rfl, hw⟩
        obtain rfl := hw.symm
        go_wp2_with fail
        go_quiet (fail)
        go_wp2_with fail
        go_roundw
        case rel => exact ⟨1, q + nq, by omega, by go_num, rfl⟩
        case measure => simp [intOf]; omega
      · obtain ⟨j, rfl⟩ : ∃ j, k = j + 1 := ⟨k - 1, by omega⟩
        have hprev := hcc j (by omega)
        have hle := HR.out j (by rw [HN.out]; omega)
        clear hcc hmem
        generalize its.getD (j + 1) 0 = y at *
        generalize its.getD j 0 = z at *
        have hs1 : (0 : Int) ≤ ((j + 1 : Nat) : Int) - 1 := by omega
        have hs2 : ((j + 1 : Nat) : Int) - 1 < (n : Int) := by omega
        have hs3 : (((j + 1 : Nat) : Int) - 1).toNat = j := by omega
        have hg1 : decide ((0 : Int) < ((j + 1 : Nat) : Int)) = true := decide_eq_true (by omega)
        go_wp2_with fail
        refine hI.out.mono ?_
        rintro e w1 ⟨rfl, hw⟩
        obtain rfl := hw.symm
        go_wp2_with fail
        go_quiet (fail)
        go_wp2_with fail
        go_roundw
        case rel => exact ⟨j + 1 + 1, q + nq, by omega, by go_num, rfl⟩
        case measure => simp [intOf]; omega
    · go_wp2_with fail
      go_ret
      exact ⟨rfl, q, rfl⟩

/-- What holds of a sketch and of what came in. -/
structure Came (h : Hd) (s : Sd) : Prop where
  inok : InOk h s
  k : s.k = h.sk.k
  len : s.xs.length = s.ws.length
  sum : wAll s.ws = s.n
  lvok : LvOk s.xs h.sk.lv
  tn : tsum h.sk.lv + nsum h.sk.lv ≤ wsum h.sk.lv
  ends : s.n = 0 ∨ (h.sk.lo ∈ s.xs ∧ h.sk.hi ∈ s.xs ∧ ∀ x ∈ s.xs, h.sk.lo ≤ x ∧ x ≤ h.sk.hi)
  pos : ∀ v ∈ s.ws, 1 ≤ v

set_option maxHeartbeats 1000000 in
set_option maxRecDepth 100000 in
theorem ends_any (p d i : Nat) (ps : Nat → Nat) (W : Wd) (w : World) (h : WdSt K w0 w p d nw ps W) (hi : i < nw) (hl : W.D.sks.length = nw) (hc : Came (W.D.sks.getD i Hd.none) (W.sd i)) :
    Calls Try.prog 46 #[.pointer (some ⟨p, 0, none⟩), .int .i64 (i : Int)] w fun e w' => e = .returned (.bool true) ∧ Below w.heap.size w w' := by
  obtain ⟨own, vs, vx, vw, h, _⟩ := h
  obtain ⟨gs, cs0, evs, hptr⟩ := h.ptr hi
  obtain ⟨c0, c1, c2, c3, c4, c5, c6, cz⟩ := blk7 h.blk
  rw [evs] at c1
  have HE := hid (deskEnds d W.D i w h.desk (by rw [hl]; exact hi) hc.inok.ok)
  have HB := hid (fun (w' : World) (hb : Below w.heap.size w w') => below_any (ps i) (W.sd i) (vx i) (vw i) (W.D.sks.getD i Hd.none).sk.lo w' ((h.side i hi).below hb) (by have := hc.inok.xl; omega) (by rw [hc.sum, hc.inok.n]; have := hc.inok.ok.cnt; omega))
  have HU := hid (fun (w' : World) (hb : Below w.heap.size w w') => upTo_any (ps i) (W.sd i) (vx i) (vw i) (W.D.sks.getD i Hd.none).sk.hi w' ((h.side i hi).below hb) (by have := hc.inok.xl; omega) (by rw [hc.sum, hc.inok.n]; have := hc.inok.ok.cnt; omega))
  have HIL := hid (fun (w' : World) (hb : Below w.heap.size w w') => in_any (ps i) (W.sd i) (vx i) (vw i) (W.D.sks.getD i Hd.none).sk.lo w' ((h.side i hi).below hb) (by have := hc.inok.xl; omega))
  have HIH := hid (fun (w' : World) (hb : Below w.heap.size w w') => in_any (ps i) (W.sd i) (vx i) (vw i) (W.D.sks.getD i Hd.none).sk.hi w' ((h.side i hi).below hb) (by have := hc.inok.xl; omega))
  have hsb := (h.side i hi).blk
  rw [← hc.inok.n] at HE
  have HSB := hid hsb
  have hsz := lt_of_blk' hsb
  have HN0 := hid hc.ends
  have HSUM := hid hc.sum
  have HLEN := hid hc.len
  generalize hpi : ps i = pi at *
  generalize (W.D.sks.getD i Hd.none).sk.lo = lo at *
  generalize (W.D.sks.getD i Hd.none).sk.hi = hI at *
  clear h hsb hpi hc evs
  by_cases hn : (W.sd i).n = 0
  · rw [if_pos hn] at HE
    go_enter Try.func46, Try.ntmps46
    go_wp2_with fail
    refine HE.out.mono ?_
    rintro e w1 ⟨rfl, hb1⟩
    have hs1 := (hb1.block _ hsz).trans HSB.out
    obtain ⟨s0, s1, s2, s3, s4, s5, sz⟩ := blk6 hs1
    rw [hn] at s2
    have HB1 := hid hb1
    clear hb1 hs1
    go_wp2_with fail
    go_ret
    exact ⟨rfl, HB1.out⟩
  · rw [if_neg hn] at HE
    have hn' : (((W.sd i).n : Int) == 0) = false := by simpa using hn
    obtain ⟨m1, m2, m3⟩ : lo ∈ (W.sd i).xs ∧ hI ∈ (W.sd i).xs ∧ ∀ x ∈ (W.sd i).xs, lo ≤ x ∧ x ≤ hI := HN0.out.resolve_left hn
    rw [decide_eq_true m1] at HIL
    rw [decide_eq_true m2] at HIH
    have hbz : wFilter (fun x => decide (x < lo)) (W.sd i).xs (W.sd i).ws = 0 := wFilter_none _ _ _ (fun x hx => by have := m3 x hx; simp; omega)
    have hut : wFilter (fun x => decide (x ≤ hI)) (W.sd i).xs (W.sd i).ws = (W.sd i).n := by rw [← HSUM.out]; exact wFilter_all _ _ _ HLEN.out (fun x hx => by have := m3 x hx; simp; omega)
    rw [hbz] at HB
    rw [hut] at HU
    clear hbz hut m1 m2 m3 HN0
    generalize (W.sd i).n = sn at *
    go_enter Try.func46, Try.ntmps46
    go_wp2_with fail
    refine HE.out.mono ?_
    rintro e w1 ⟨rfl, hb1⟩
    have hs1 := (hb1.block _ hsz).trans HSB.out
    obtain ⟨s0, s1, s2, s3, s4, s5, sz⟩ := blk6 hs1
    have HB1 := hid hb1
    clear hb1 hs1
    go_wp2_with (first | (go_at_call 76; refine (HB.out _ HB1.out).mono ?_; rintro e w' ⟨rfl, hw⟩; obtain rfl := hw.symm) | (go_at_call 49; refine (HU.out _ HB1.out).mono ?_; rintro e w' ⟨rfl, hw⟩; obtain rfl := hw.symm) | (go_at_call_of 75 (Value.int IntKind.i64 lo); refine (HIL.out _ HB1.out).mono ?_; rintro e w' ⟨rfl, hw⟩; obtain rfl := hw.symm) | (go_at_call_of 75 (Value.int IntKind.i64 hI); refine (HIH.out _ HB1.out).mono ?_; rintro e w' ⟨rfl, hw⟩; obtain rfl := hw.symm))
    go_ret
    exact ⟨rfl, HB1.out⟩

set_option maxHeartbeats 2000000 in
set_option maxRecDepth 100000 in
theorem kept_any (p d i : Nat) (ps : Nat → Nat) (W : Wd) (w : World) (h : WdSt K w0 w p d nw ps W) (hi : i < nw) (hl : W.D.sks.length = nw) (hc : Came (W.D.sks.getD i Hd.none) (W.sd i)) :
    Calls Try.prog 15 #[.pointer (some ⟨p, 0, none⟩), .int .i64 (i : Int)] w fun e w' => e = .returned (.bool true) ∧ Below w.heap.size w w' := by
  have HST := hid h
  obtain ⟨own, vs, vx, vw, h, _⟩ := h
  obtain ⟨gs, cs0, evs, hptr⟩ := h.ptr hi
  obtain ⟨c0, c1, c2, c3, c4, c5, c6, cz⟩ := blk7 h.blk
  rw [evs] at c1
  have hil : i < W.D.sks.length := by rw [hl]; exact hi
  have HD := hid h.desk
  have HS := hid (deskSize d W.D i w h.desk hil hc.inok.ok)
  have HC := hid hc
  have HPB := hid h.blk
  have hpz := lt_of_blk' h.blk
  have HSD := hid (h.side i hi)
  have hsz := lt_of_blk' (h.side i hi).blk
  have hlen1 := hc.inok.ok.len1
  have hlen2 := hc.inok.ok.len
  have hcnt := hc.inok.ok.cnt
  have HKK := hid hc.k
  have HNN := hid hc.inok.n
  have HEN := hid (fun (w' : World) (hb : Below w.heap.size w w') => ends_any p d i ps W w' (HST.out.below hb) hi hl HC.out)
  have HLV := hid (fun (w' : World) (hb : Below w.heap.size w w') (j : Nat) (hj : j < (W.D.sks.getD i Hd.none).sk.lv.length) => deskLevel d W.D i j w' (HD.out.below hb) hil hj hc.inok.ok)
  have HLN := hid (fun (w' : World) (hb : Below w.heap.size w w') (hh : Int) (hno : hh < 0 ∨ ((W.D.sks.getD i Hd.none).sk.lv.length : Int) ≤ hh) => deskLevel_no d W.D i hh w' (HD.out.below hb) hil hno)
  have HAM := hid (fun (w' : World) (hb : Below w.heap.size w w') (vl : Value) (j : Nat) (hv : Ints w' vl ((W.D.sks.getD i Hd.none).sk.lv.getD j Lvl.none).items) (hln : ((W.D.sks.getD i Hd.none).sk.lv.getD j Lvl.none).items.length ≤ 268435456) => among_any (ps i) (W.sd i) (vx i) (vw i) vl _ w' ((h.side i hi).below hb) (by have := hc.inok.xl; omega) hv (hc.lvok.at j).2 (hc.lvok.at j).1.rising (by omega))
  have HIB : Hid (∀ j, j < (W.D.sks.getD i Hd.none).sk.lv.length → ((W.D.sks.getD i Hd.none).sk.lv.getD j Lvl.none).items.length ≤ 268435456) := fun j hj => by have := nsum_at hj; have := nsum_le (W.D.sks.getD i Hd.none).sk.lv; omega
  have hnsl := nsum_le (W.D.sks.getD i Hd.none).sk.lv
  generalize W.D.sks.getD i Hd.none = de at *
  generalize W.sd i = sd at *
  generalize ps i = pi at *
  generalize hlve : de.sk.lv = L at *
  generalize hlne : L.length = ln at *
  have HLN0 := hid hlne
  have g1 : ((de.sk.k : Int) != (de.sk.k : Int)) = false := by simp
  have g2 : ((wsum L : Int) != (wsum L : Int)) = false := by simp
  have g3 : decide ((ln : Int) < 1) = false := by simp; omega
  have g4 : decide ((29 : Int) < (ln : Int)) = false := by simp; omega
  clear h hc evs hlve hlne hil hl
  go_enter Try.func15, Try.ntmps15
  go_wp2_with fail
  refine HS.out.mono ?_
  rintro e w1 ⟨rfl, hb1⟩
  have hs1 := (hb1.block _ hsz).trans HSD.out.blk
  obtain ⟨s0, s1, s2, s3, s4, s5, sz⟩ := blk6 hs1
  rw [HKK.out] at s3
  rw [HNN.out] at s2
  have hp1 := (hb1.block _ hpz).trans HPB.out
  obtain ⟨q0, q1, q2, q3, q4, q5, q6, qz⟩ := blk7 hp1
  have HB1 := hid hb1
  have hz1 : pi < w1.heap.size := lt_of_blk' hs1
  have hz2 : p < w1.heap.size := lt_of_blk' hp1
  have HSB := hid hs1
  have HPB1 := hid hp1
  clear hb1 hs1 hp1
  go_wp2_with fail
  go_quiet (fail)
  go_wp2_with fail
  have hWB : Below w.heap.size w ((w1.alloc (.cells #[.int .i64 (de.sk.k : Int), .int .i64 (wsum L : Int), .int .i64 (nsum L : Int), .int .i64 (ln : Int)] 99)).drewN nq) := below_drewN (HB1.out.alloc HB1.out.size _) nq
  have hZB : ((w1.alloc (.cells #[.int .i64 (de.sk.k : Int), .int .i64 (wsum L : Int), .int .i64 (nsum L : Int), .int .i64 (ln : Int)] 99)).drewN nq).heap[w1.heap.size]? = some (.cells #[.int .i64 (de.sk.k : Int), .int .i64 (wsum L : Int), .int .i64 (nsum L : Int), .int .i64 (ln : Int)] 99 (0, 0)) := heap_alloc_new w1 _
  have hSB : ((w1.alloc (.cells #[.int .i64 (de.sk.k : Int), .int .i64 (wsum L : Int), .int .i64 (nsum L : Int), .int .i64 (ln : Int)] 99)).drewN nq).heap[pi]? = some _ := (Below.heap_alloc w1 _ pi hz1).trans HSB.out
  have hPB : ((w1.alloc (.cells #[.int .i64 (de.sk.k : Int), .int .i64 (wsum L : Int), .int .i64 (nsum L : Int), .int .i64 (ln : Int)] 99)).drewN nq).heap[p]? = some _ := (Below.heap_alloc w1 _ p hz2).trans HPB1.out
  generalize (w1.alloc (.cells #[.int .i64 (de.sk.k : Int), .int .i64 (wsum L : Int), .int .i64 (nsum L : Int), .int .i64 (ln : Int)] 99)).drewN nq = WB at *
  generalize w1.heap.size = zb at *
  have HWB := hid hWB
  have HZB := hid hZB
  have HSB2 := hid hSB
  have HPB2 := hid hPB
  have hzb := lt_of_blk' hZB
  have hpb := lt_of_blk' hPB
  have hsb := lt_of_blk' hSB
  clear hWB hZB hSB hPB s0 s1 s2 s3 s4 s5 sz q0 q1 q2 q3 q4 q5 q6 qz c0 c1 c2 c3 c4 c5 c6 cz HB1 HSB HPB1 hptr g1 g2 HPB HS
  go_loopw [8, 9, 10] (fun t8 t9 t10 wr => ∃ (j a1 a2 : Nat), j ≤ ln ∧ t10 = .int .i64 j ∧ t8 = .int .i64 a1 ∧ t9 = .int .i64 a2 ∧ Hid (a1 + nsum (L.drop j) = nsum L) ∧ Hid (a2 + 2 ^ j * wsum (L.drop j) = wsum L) ∧ Hid (Below WB.heap.size WB wr)) (fun _ _ t10 _ => ln - (intOf t10).toNat)
  case atStart => exact ⟨0, 0, 0, Nat.zero_le _, rfl, rfl, rfl, by simp [Hid], by simp [Hid], Below.refl _ _⟩
  case round =>
    obtain ⟨j, a1, a2, hj, rfl, rfl, rfl, Ha1, Ha2, Hb⟩ := hrel
    obtain ⟨z0, z1, z2, z3, zz⟩ := blk4 ((Hb.out.block _ hzb).trans HZB.out)
    obtain ⟨q0, q1, q2, q3, q4, q5, q6, qz⟩ := blk7 ((Hb.out.block _ hpb).trans HPB2.out)
    have hbw : Below w.heap.size w wr := HWB.out.trans (Hb.out.mono HWB.out.size)
    by_cases hlt : j < ln
    · have hlt' : j < L.length := by rw [HLN0.out]; exact hlt
      have hL1 := HLV.out wr hbw j (by first | exact hlt | exact hlt')
      have hib := HIB.out j (by first | exact hlt | exact hlt')
      have HS1 := hid (nsum_drop L j hlt')
      have HS2 := hid (wstep hlt' Ha2.out)
      have HP2 : Hid (2 ^ (j + 1) = 2 ^ j * 2) := Nat.pow_succ ..
      have HPW := hid (fun (w' : World) => power_any j w' (by omega))
      have b2 := pow2_bd (j := j) (by omega)
      have HL1 := hid hL1
      have HBW := hid hbw
      clear hL1 hbw q1 q2 q3 q4 q5 q6 qz
      go_wp2_with fail
      refine HL1.out.mono ?_
      rintro e w3 ⟨rfl, hi3, hb3⟩
      have hbw3 : Below w.heap.size w w3 := HBW.out.trans (hb3.mono HBW.out.size)
      have HA3 := hid (HAM.out w3 hbw3 _ j hi3 hib)
      have HB3 : Hid (Below WB.heap.size WB w3) := Hb.out.trans (hb3.mono Hb.out.size)
      clear hi3 hb3 hbw3
      generalize (L.getD j Lvl.none).items = its at *
      generalize hml : its.length = m at *
      generalize 2 ^ j = pw at *
      have hm1 : (a2 : Int) + (pw : Int) * (m : Int) ≤ 1099511627776 := by
        have := HS2.out
        rw [← Int.natCast_mul]
        generalize pw * m = pm at *
        omega
      have hm2 := mul_nn pw m
      have hm3 : a1 + m ≤ 1099511627776 := by have := Ha1.out; have := HS1.out; omega
      clear hml
      go_wp2_with fail
      refine HA3.out.mono ?_
      rintro e w4 ⟨rfl, nn, rfl⟩
      go_wp2_with (first | (go_at_call 45; refine (HPW.out _).mono ?_; rintro e w' ⟨rfl, hw⟩; obtain rfl := hw.symm))
      go_roundw
      case rel =>
        refine ⟨j + 1, a1 + m, a2 + pw * m, by omega, by go_num, by go_num, by rw [Int.natCast_add, Int.natCast_mul], ?_, ?_, below_drewN HB3.out _⟩
        · have := Ha1.out; have := HS1.out; unfold Hid; omega
        · rw [HP2.out]; exact HS2.out
      case measure => simp [intOf]; omega
    · have hjl : j = ln := by omega
      subst hjl
      have HE1 : Hid (a1 = nsum L) := by have := Ha1.out; rw [nsum_end L j (by rw [HLN0.out]; exact Nat.le_refl _)] at this; exact this
      have HE2 : Hid (a2 = wsum L) := by have := Ha2.out; rw [wsum_end L j (by rw [HLN0.out]; exact Nat.le_refl _)] at this; simpa [Hid] using this
      obtain ⟨s0, s1, s2, s3, s4, s5, sz⟩ := blk6 ((Hb.out.block _ hsb).trans HSB2.out)
      rw [HNN.out] at s2
      have HQ1 := hid (fun (n : Nat) => HLN.out (wr.drewN n) (below_drewN hbw n) (j : Int) (.inr (Int.le_refl _)))
      have HQ2 := hid (fun (n : Nat) => HLN.out (wr.drewN n) (below_drewN hbw n) (-1) (.inl (by omega)))
      have HEN2 := hid (fun (n : Nat) => HEN.out (wr.drewN n) (below_drewN hbw n))
      have HBW := hid hbw
      clear hbw s0 s1 s3 s4 s5 sz q1 q2 q3 q4 q5 q6 qz
      go_wp2_with fail
      go_quiet ((go_at_call 43; exact Calls.quiet_of_same (HQ1.out _)))
      go_wp2_with fail
      refine (HQ2.out nq).mono ?_
      rintro e w' ⟨rfl, hw⟩
      obtain rfl := hw.symm
      clear hw
      go_wp2_with fail
      refine (HEN2.out nq).mono ?_
      rintro e w5 ⟨rfl, hb5⟩
      have hb6 : Below wr.heap.size wr w5 := undrewN hb5
      have k2 := cell_later hb6 s2
      have k3 := cell_later hb6 z2
      have HB6 := hid hb6
      have ha : ((a1 : Int) == (nsum L : Int)) = true := by rw [HE1.out]; simp
      have hb : ((a2 : Int) == (wsum L : Int)) = true := by rw [HE2.out]; simp
      clear hb5 hb6 s2 z0 z1 z2 z3 zz
      go_wp2_with fail
      go_ret
      exact ⟨rfl, HBW.out.trans (HB6.out.mono HBW.out.size)⟩

end Go.Proofs.Ytklicjbpjigfdab
