/- DERIVED. The walks of more, add and merge where at most six coins may be used: they may end short. -/
import Derived.Test.YtklicjbpjigfdaaMh
import Derived.Deep.RegionWith
import Derived.Deep.DrawnRows
import Derived.Test.YtklicjbpjigfdaaMj
namespace Go.Proofs.Ytklicjbpjigfdaa
open Go.RowKit
variable {K : Nat → Prop} {w0 : World}

theorem wd_set6 {w : World} {p d m : Nat} {own : Nat → Nat} {W : Wd} {ps : Nat → Nat} {vs : Value} {vx vw : Nat → Value} (h : WdAt own w p d m W ps vs vx vw) (h2K : ∀ b, K b → own b = 0 ∧ b < w0.heap.size) (hk : Keeps K w0 w) : WdSt K w0 (w.setCell ⟨p, 6, none⟩ (.bool true)) p d m ps { W with short := true } := by
  refine h.own (by rw [setCell_size]) (fun b hb => Below.heap_setCell _ _ _ _ hb) ?_ rfl rfl h2K hk rfl rfl rfl
  have := blk_set (i := 6) (.bool true) h.blk
  simpa using this

set_option maxHeartbeats 1000000 in
set_option maxRecDepth 100000 in
theorem more6_any (p d m : Nat) (ps : Nat → Nat) (W : Wd) (w : World) (h : WdSt K w0 w p d m ps W) (hat : W.at_ ≤ 140737488355328) (hcs : W.coins.size ≤ 140737488355328) (hmost : W.most = 6) (hus : W.used ≤ 6) (htp : W.D.tape.length < 1024) :
    Calls Try.prog 47 #[.pointer (some ⟨p, 0, none⟩)] w fun e w' => (W.used < 6 ∧ ∃ c a, e = .returned (.bool true) ∧ (a ≤ 140737488355328 ∧ c = coinOf W.coins W.at_ ∧ a = atOf W.coins W.at_) ∧ WdSt K w0 w' p d m ps { W with at_ := a, used := W.used + 1, D := { W.D with tape := W.D.tape ++ [c] } }) ∨ (W.used = 6 ∧ e = .returned (.bool false) ∧ WdSt K w0 w' p d m ps { W with short := true }) := by
  obtain ⟨own, vs, vx, vw, h, h2K, hk⟩ := h
  obtain ⟨c0, c1, c2, c3, c4, c5, c6, cz⟩ := blk7 h.blk
  rw [hmost] at c5
  have HW4 := hid (fun (n : Nat) => wd_set4 (K := K) (w0 := w0) (h.below (w' := w.drewN n) ⟨rfl, rfl, rfl, Nat.le_refl _, fun _ _ => rfl⟩) h2K (hk.below ⟨rfl, rfl, rfl, Nat.le_refl _, fun _ _ => rfl⟩ (fun b e => (h2K b e).2)) (W.used + 1))
  have HW6 := hid (fun (n : Nat) => wd_set6 (K := K) (w0 := w0) (h.below (w' := w.drewN n) ⟨rfl, rfl, rfl, Nat.le_refl _, fun _ _ => rfl⟩) h2K (hk.below ⟨rfl, rfl, rfl, Nat.le_refl _, fun _ _ => rfl⟩ (fun b e => (h2K b e).2)))
  have hg : decide ((0 : Int) ≤ 6) = true := by decide
  by_cases h6 : W.used = 6
  · have hg2 : decide ((6 : Int) ≤ (W.used : Int)) = true := decide_eq_true (by omega)
    have H6 := hid h6
    clear h h2K hk h6
    go_enter Try.func47, Try.ntmps47
    go_wp2_with fail
    go_quiet (fail)
    go_wp2_with fail
    go_ret
    exact .inr ⟨H6.out, rfl, HW6.out nq⟩
  have hg2 : decide ((6 : Int) ≤ (W.used : Int)) = false := decide_eq_false (by omega)
  have HLT : Hid (W.used < 6) := by unfold Hid; omega
  clear HW6 h6
  clear h h2K hk
  go_enter Try.func47, Try.ntmps47
  go_wp2_with fail
  go_quiet (fail)
  go_wp2_with fail
  have hw4 := HW4.out nq
  rw [show ((W.used + 1 : Nat) : Int) = (W.used : Int) + 1 by omega] at hw4
  refine (coin_any p d m ps _ _ hw4 hat hcs).mono ?_
  rintro e w1 ⟨s, a, rfl, hs, ha, h1⟩
  have HS := hid hs
  have HA := hid ha
  clear hw4 HW4 ha c0 c1 c2 c3 c4 c5 c6 cz
  obtain ⟨own, vs, vx, vw, h, h2K, hk⟩ := h1
  obtain ⟨d0, d1, d2, d3, d4, d5, d6, dz⟩ := blk7 h.blk
  have HF := hid (deskFeed d W.D s w1 h.desk hs.2 (by have := hs.1; omega))
  have HH := hid h
  have H2 := hid h2K
  have HK := hid hk
  clear h h2K hk hs
  go_wp2_with fail
  refine HF.out.mono ?_
  rintro e w2 ⟨rfl, hst⟩
  have hfin := HH.out.deskStep H2.out HK.out hst
  have ha2 := HA.out
  rw [ha2.2.1] at hfin
  have HFIN := hid hfin
  clear hfin hst ha2
  go_wp2_with fail
  go_ret
  exact .inl ⟨HLT.out, _, a, rfl, ⟨HA.out.1, rfl, HA.out.2.2⟩, HFIN.out⟩


set_option maxHeartbeats 2000000 in
set_option maxRecDepth 100000 in
theorem wadd6_any (p d i wt : Nat) (x : Int) (ps : Nat → Nat) (W : Wd) (w : World) (h : WdSt K w0 w p d 3 ps W) (hi : i < 3) (hl : W.D.sks.length = 3) (hun : (W.D.sks.getD i Hd.none).sealed = false) (hok : InOk (W.D.sks.getD i Hd.none) (W.sd i)) (htp : W.D.tape = []) (hw1 : 1 ≤ wt) (hw2 : wt ≤ 268435456) (hat : W.at_ ≤ 140737488355328) (hcs : W.coins.size ≤ 140737488355328) (hmost : W.most = 6) (hus : W.used ≤ 6) :
    Calls Try.prog 21 #[.pointer (some ⟨p, 0, none⟩), .int .i64 (i : Int), .int .i64 x, .int .i64 (wt : Int)] w fun e w' => (∃ W', e = .returned (.bool true) ∧ WdSt K w0 w' p d 3 ps W' ∧ AddR i x wt W W' ∧ W'.used ≤ 6) ∨ (e = .returned (.bool false) ∧ ∃ W', WdSt K w0 w' p d 3 ps W' ∧ W'.short = true) := by
  have HST := hid h
  obtain ⟨own, vs, vx, vw, h, h2K, hk⟩ := h
  obtain ⟨gs, cs0, evs, hptr⟩ := h.ptr hi
  obtain ⟨c0, c1, c2, c3, c4, c5, c6, cz⟩ := blk7 h.blk
  rw [evs] at c1
  have HOK := hid hok
  have HUN := hid hun
  clear hun
  have HTP := hid htp
  have HL := hid hl
  have HMO := hid hmost
  have hb29 : nsum (addL (W.D.sks.getD i Hd.none) x wt) ≤ capSum (W.D.sks.getD i Hd.none).sk.k (addL (W.D.sks.getD i Hd.none) x wt).length + 29 := by
    have e1 := withFrom_nsum (x := x) (f := 29) (w := wt) (h := 0) (L := (W.D.sks.getD i Hd.none).sk.lv) (Nat.zero_le _)
    have e2 := withFrom_length_ge (x := x) (f := 29) (w := wt) (h := 0) (L := (W.D.sks.getD i Hd.none).sk.lv) (Nat.zero_le _)
    have e3 := capSum_mono (k := (W.D.sks.getD i Hd.none).sk.k) e2
    have := hok.set
    unfold addL
    omega
  have HB := hid hb29
  generalize hpi : ps i = pi at *
  clear h h2K hk evs hok htp hl hb29 hmost
  go_enter Try.func21, Try.ntmps21
  go_wp2_with fail
  go_loopw [10] (fun si wr => ∃ (cs : List Bool) (a : Nat), si = .int .i64 (cs.length : Int) ∧ Hid (DrawOk W cs a) ∧ W.used + cs.length ≤ 6 ∧ cs.length ≤ 29 ∧ Hid (WdSt K w0 wr p d 3 ps { W with D := { W.D with tape := cs }, used := W.used + cs.length, at_ := a }) ∧
      Hid ((cs = [] ∧ a = W.at_) ∨ (wsum (W.D.sks.getD i Hd.none).sk.lv + wt ≤ 268435456 ∧ ∃ cs' c, cs = cs' ++ [c] ∧ settle (W.D.sks.getD i Hd.none).sk.k cs' 0 (addL (W.D.sks.getD i Hd.none) x wt) = Option.none))) (fun si _ => 29 - (intOf si).toNat)
  case atStart =>
    refine ⟨[], W.at_, rfl, ⟨hat, rfl, rfl⟩, hus, Nat.zero_le _, ?_, .inl ⟨rfl, rfl⟩⟩
    have := HST.out
    rw [wd_eta HTP.out] at this
    exact this
  case round =>
    obtain ⟨cs, a, rfl, ha, hu6, hc29, Hst, Hcs⟩ := hrel
    obtain ⟨own1, vs1, vx1, vw1, h1, h2K1, hk1⟩ := Hst.out
    obtain ⟨d0, d1, d2, d3, d4, d5, d6, dz⟩ := blk7 h1.blk
    have hA := hid (add_any (F := fun b => own1 b = 1) d i wt x { W.D with tape := cs } wr h1.desk (by rw [HL.out]; exact hi) HOK.out.ok HUN.out hw1 hw2 (by show cs.length ≤ 1024; omega))
    have H1 := hid h1
    have H2 := hid h2K1
    have HK := hid hk1
    clear h1 h2K1 hk1 c0 c1 c2 c3 c4 c5 c6 cz hptr
    by_cases hfull : wsum (W.D.sks.getD i Hd.none).sk.lv + wt ≤ 268435456
    · have hfi : ¬ 268435456 - ((W.sd i).n : Int) < (wt : Int) := by rw [HOK.out.n]; omega
      have hnb : (W.sd i).n ≤ 268435456 := by rw [HOK.out.n]; exact HOK.out.ok.cnt
      have HFU := hid hfull
      go_wp2_with fail
      refine hA.out.mono ?_
      intro e w1 hans
      rw [if_pos hfull] at hans
      clear hfull
      cases hset : settle (W.D.sks.getD i Hd.none).sk.k cs 0 (addL (W.D.sks.getD i Hd.none) x wt) with
      | none =>
        have hans' : e = .returned (.int .i64 7) ∧ Below wr.heap.size wr w1 := by
          have h9 := hans
          rw [hset] at h9
          exact h9
        obtain ⟨rfl, hb1⟩ := hans'
        have HSET := hid hset
        have hb9 := settle_none_bound hset
        have hcn : cs.length < 29 := by have := HB.out; omega
        have hst1 := Hst.out.below hb1
        have HM := hid (more6_any p d 3 ps _ w1 hst1 ha.out.1 hcs HMO.out hu6 (by show cs.length < 1024; omega))
        clear hans hset hb1 hst1
        go_wp2_with fail
        refine HM.out.mono ?_
        rintro e w2 (⟨hlt6, c, a2, rfl, ha2, hst2⟩ | ⟨_, rfl, hst2⟩)
        rotate_left
        · have HS2 := hid hst2
          clear hst2
          go_wp2_with fail
          go_ret
          exact .inr ⟨rfl, _, HS2.out, rfl⟩
        have HA2 := hid ha2
        have hlt7 : W.used + cs.length < 6 := hlt6
        clear ha2 hlt6
        have HS2 := hid hst2
        clear hst2
        go_wp2_with fail
        go_roundw
        case rel =>
          refine ⟨cs ++ [c], a2, by simp, ha.out.snoc HA2.out, by simp; omega, by simp; omega, ?_, .inr ⟨HFU.out, cs, c, rfl, HSET.out⟩⟩
          have := HS2.out
          simpa [Hid, Nat.add_assoc] using this
        case measure => simp [intOf]; omega
      | some q =>
        obtain ⟨L', u⟩ := q
        have hans' : e = .returned (.int .i64 0) ∧ DeskStep (fun b => own1 b = 1) wr w1 d { W.D with tape := cs.drop u, sks := W.D.sks.set i { sk := { k := (W.D.sks.getD i Hd.none).sk.k, lv := L', lo := addLo (W.D.sks.getD i Hd.none) x, hi := addHi (W.D.sks.getD i Hd.none) x }, sealed := (W.D.sks.getD i Hd.none).sealed, taken := (W.D.sks.getD i Hd.none).taken } } := by
          have h9 := hans
          rw [hset] at h9
          exact h9
        obtain ⟨rfl, hst1⟩ := hans'
        have hu : u = cs.length := by
          rcases Hcs.out with ⟨e, _⟩ | ⟨_, cs', c, e, e2⟩
          · subst e; have := settle_used hset; simp at this; simpa using this
          · rw [e] at hset
            have := settle_last e2 hset
            rw [e]; simp; omega
        subst hu
        rw [List.drop_length] at hst1
        have hw1 := H1.out.deskStep H2.out HK.out hst1
        have HSET := hid hset
        have HCL := hid (clean_any p d 3 ps _ w1 hw1)
        obtain ⟨own2, vs2, vx2, vw2, h2, h2K2, hk2⟩ := hw1
        have hsd := h2.side i hi
        rw [hpi] at hsd
        obtain ⟨s0, s1, s2, s3, s4, s5, sz⟩ := blk6 hsd.blk
        have s2' : w1.cell? ⟨pi, 2, none⟩ = some (.int .i64 ((W.sd i).n : Int)) := s2
        have HPU := hid (put_any pi (W.sd i) (vx2 i) (vw2 i) x wt w1 hsd (by have := HOK.out.xl; omega) (by omega) (fun j => by have := HOK.out.wl j; omega) (fun b hb => h2.lt b (by omega)))
        have HH2 := hid h2
        have H22 := hid h2K2
        have HK2 := hid hk2
        clear hans hset hst1 h2 h2K2 hk2 hsd s0 s1 s2 s3 s4 s5 sz
        go_wp2_with (first | (go_at_call 45; refine HCL.out.mono ?_; rintro e w' ⟨rfl, hw⟩; obtain rfl := hw.symm))
        refine HPU.out.mono ?_
        rintro e w3 ⟨rfl, vx3, vw3, hs3, hf3⟩
        rw [← hpi] at hs3
        have hst3 := HH2.out.sideStep hi hs3 hf3 H22.out HK2.out
        obtain ⟨own4, vs4, vx4, vw4, h4, h2K4, hk4⟩ := hst3
        have hsd4 := (h4.side i hi).blk
        rw [hpi] at hsd4
        obtain ⟨r0, r1, r2, r3, r4, r5, rz⟩ := blk6 hsd4
        have r4' : w3.cell? ⟨pi, 4, none⟩ = some (.bool (W.sd i).ones) := by simpa [Sd.put] using r4
        have HFI := hid (fun o => sd_set4 (K := K) (w0 := w0) h4 hi h2K4 hk4 o)
        have HWE : Hid (((wt : Int) == 1) = (wt == 1)) := by
          by_cases e : wt = 1
          · subst e; rfl
          · have e1 : ((wt : Int) == 1) = false := by simp; omega
            have e2 : (wt == 1) = false := by simpa using e
            unfold Hid; rw [e1, e2]
        clear hs3 hf3 h4 h2K4 hk4 hsd4 r0 r1 r2 r3 r4 r5 HPU HH2
        generalize hones : (W.sd i).ones = ones at *
        have HON := hid hones
        clear hones
        cases ones
        · go_wp2_with fail
          go_ret
          refine .inl ⟨W.took i x wt L' cs.length a, rfl, ?_, .inr ⟨HFU.out, cs, L', a, ha.out, HSET.out, hc29, rfl⟩, hu6⟩
          have hfin := HFI.out false
          rw [hpi] at hfin
          refine Eq.mp (congrArg (WdSt K w0 _ p d 3 ps) ?_) hfin
          simp only [Wd.took, Wd.mk.injEq, and_true, true_and]
          funext j
          by_cases hj : j = i
          · subst hj; simp [Sd.took, HON.out]
          · simp [hj]
        · go_wp2_with fail
          go_ret
          refine .inl ⟨W.took i x wt L' cs.length a, rfl, ?_, .inr ⟨HFU.out, cs, L', a, ha.out, HSET.out, hc29, rfl⟩, hu6⟩
          have hfin := HFI.out ((wt : Int) == 1)
          rw [hpi] at hfin
          refine Eq.mp (congrArg (WdSt K w0 _ p d 3 ps) ?_) hfin
          rw [HWE.out]
          simp only [Wd.took, Wd.mk.injEq, and_true, true_and]
          funext j
          by_cases hj : j = i
          · subst hj; simp [Sd.took, HON.out]
          · simp [hj]
    · go_wp2_with fail
      refine hA.out.mono ?_
      intro e w1 hans
      rw [if_neg hfull] at hans
      obtain ⟨rfl, hb1⟩ := hans
      have hcs0 : cs = [] ∧ a = W.at_ := by
        rcases Hcs.out with e | e
        · exact e
        · exact absurd e.1 hfull
      obtain ⟨hc0, ha0⟩ := hcs0
      subst hc0
      have HA0 := hid ha0
      clear ha0
      have hst1 := Hst.out.below hb1
      have HCL := hid (clean_any p d 3 ps _ w1 hst1)
      obtain ⟨own2, vs2, vx2, vw2, h2, _⟩ := hst1
      obtain ⟨s0, s1, s2, s3, s4, s5, sz⟩ := blk6 (h2.side i hi).blk
      rw [hpi] at s2
      have HS1 := hid (Hst.out.below hb1)
      have hfi : 268435456 - ((W.sd i).n : Int) < (wt : Int) := by rw [HOK.out.n]; omega
      have HFU := hid hfull
      have s2' : w1.cell? ⟨pi, 2, none⟩ = some (.int .i64 ((W.sd i).n : Int)) := s2
      have hnb : (W.sd i).n ≤ 268435456 := by rw [HOK.out.n]; exact HOK.out.ok.cnt
      clear hb1 h2 s0 s1 s2 s3 s4 s5 sz hfull
      generalize (W.sd i).n = sn at *
      go_wp2_with (first | (go_at_call 45; refine HCL.out.mono ?_; rintro e w' ⟨rfl, hw⟩; obtain rfl := hw.symm))
      go_ret
      refine .inl ⟨W, rfl, ?_, .inl ⟨by have := HFU.out; omega, rfl⟩, hus⟩
      have := HS1.out
      rw [HA0.out] at this
      rw [wd_eta HTP.out]
      exact this


set_option maxHeartbeats 2000000 in
set_option maxRecDepth 100000 in
theorem wmerge6_any (p d i j : Nat) (ps : Nat → Nat) (W : Wd) (w : World) (h : WdSt K w0 w p d 3 ps W) (hi : i < 3) (hj : j < 3) (hl : W.D.sks.length = 3) (hun : (W.D.sks.getD i Hd.none).sealed = false) (ci : Came (W.D.sks.getD i Hd.none) (W.sd i)) (cj : Came (W.D.sks.getD j Hd.none) (W.sd j)) (htp : W.D.tape = []) (hat : W.at_ ≤ 140737488355328) (hcs : W.coins.size ≤ 140737488355328) (hmost : W.most = 6) (hus : W.used ≤ 6) :
    Calls Try.prog 27 #[.pointer (some ⟨p, 0, none⟩), .int .i64 (i : Int), .int .i64 (j : Int)] w fun e w' => (∃ W', e = .returned (.bool true) ∧ WdSt K w0 w' p d 3 ps W' ∧ MergeR i j W W' ∧ W'.used ≤ 6) ∨ (e = .returned (.bool false) ∧ ∃ W', WdSt K w0 w' p d 3 ps W' ∧ W'.short = true) := by
  have HST := hid h
  obtain ⟨own, vs, vx, vw, h, h2K, hk⟩ := h
  obtain ⟨gs, cs0, evs, hptr⟩ := h.ptr hi
  obtain ⟨gs2, cs2, evs2, hptr2⟩ := h.ptr hj
  rw [evs] at evs2
  cases evs2
  obtain ⟨c0, c1, c2, c3, c4, c5, c6, cz⟩ := blk7 h.blk
  rw [evs] at c1
  have CI := hid ci
  have HUN := hid hun
  clear hun
  have CJ := hid cj
  have HTP := hid htp
  have HL := hid hl
  have HMO := hid hmost
  have HB := hid (merge_few ci.inok.ok cj.inok.ok ci.inok.set cj.inok.set)
  have HTS : Hid (tsum (W.D.sks.getD i Hd.none).sk.lv + tsum (W.D.sks.getD j Hd.none).sk.lv ≤ 549755813888) := by
    have := ci.tn; have := cj.tn; have := ci.inok.ok.cnt; have := cj.inok.ok.cnt
    unfold Hid; omega
  generalize hpi : ps i = pi at *
  generalize hpj : ps j = pj at *
  have hs1 : (0 : Int) ≤ (i : Int) := by omega
  have hs2 : (i : Int) < 3 := by omega
  have hs3 : (0 : Int) ≤ (j : Int) := by omega
  have hs4 : (j : Int) < 3 := by omega
  clear h h2K hk evs htp hl hmost ci cj
  go_enter Try.func27, Try.ntmps27
  go_wp2_with fail
  go_loopw [9] (fun si wr => ∃ (cs : List Bool) (a : Nat), si = .int .i64 (cs.length : Int) ∧ Hid (DrawOk W cs a) ∧ W.used + cs.length ≤ 6 ∧ cs.length ≤ 230 ∧ Hid (WdSt K w0 wr p d 3 ps { W with D := { W.D with tape := cs }, used := W.used + cs.length, at_ := a }) ∧
      Hid ((cs = [] ∧ a = W.at_) ∨ (wsum (W.D.sks.getD i Hd.none).sk.lv + wsum (W.D.sks.getD j Hd.none).sk.lv ≤ 268435456 ∧ ∃ cs' c, cs = cs' ++ [c] ∧ settle (mgK (W.D.sks.getD i Hd.none) (W.D.sks.getD j Hd.none)) cs' 0 (mgL (W.D.sks.getD i Hd.none) (W.D.sks.getD j Hd.none)) = Option.none))) (fun si _ => 256 - (intOf si).toNat)
  case atStart =>
    refine ⟨[], W.at_, rfl, ⟨hat, rfl, rfl⟩, hus, Nat.zero_le _, ?_, .inl ⟨rfl, rfl⟩⟩
    have := HST.out
    rw [wd_eta HTP.out] at this
    exact this
  case round =>
    obtain ⟨cs, a, rfl, ha, hu6, hc29, Hst, Hcs⟩ := hrel
    obtain ⟨own1, vs1, vx1, vw1, h1, h2K1, hk1⟩ := Hst.out
    obtain ⟨d0, d1, d2, d3, d4, d5, d6, dz⟩ := blk7 h1.blk
    have hA := hid (dmerge_any (F := fun b => own1 b = 1) d i j { W.D with tape := cs } wr h1.desk (by rw [HL.out]; exact hi) (by rw [HL.out]; exact hj) CI.out.inok.ok CJ.out.inok.ok HUN.out HTS.out (by show cs.length ≤ 1024; omega))
    have H1 := hid h1
    have H2 := hid h2K1
    have HK := hid hk1
    clear h1 h2K1 hk1 c0 c1 c2 c3 c4 c5 c6 cz hptr hptr2
    have hni : (W.sd i).n ≤ 268435456 := by rw [CI.out.inok.n]; exact CI.out.inok.ok.cnt
    have hnj : (W.sd j).n ≤ 268435456 := by rw [CJ.out.inok.n]; exact CJ.out.inok.ok.cnt
    by_cases hfull : wsum (W.D.sks.getD i Hd.none).sk.lv + wsum (W.D.sks.getD j Hd.none).sk.lv ≤ 268435456
    · have HFU := hid hfull
      have hfi : ¬ 268435456 - ((W.sd i).n : Int) < ((W.sd j).n : Int) := by rw [CI.out.inok.n, CJ.out.inok.n]; omega
      have hfi' : decide (268435456 - ((W.sd i).n : Int) < ((W.sd j).n : Int)) = false := decide_eq_false hfi
      go_wp2_with fail
      refine hA.out.mono ?_
      intro e w1 hans
      rw [if_pos hfull] at hans
      clear hfull
      cases hset : settle (mgK (W.D.sks.getD i Hd.none) (W.D.sks.getD j Hd.none)) cs 0 (mgL (W.D.sks.getD i Hd.none) (W.D.sks.getD j Hd.none)) with
      | none =>
        have hans' : e = .returned (.int .i64 7) ∧ Below wr.heap.size wr w1 := by
          have h9 := hans
          rw [hset] at h9
          exact h9
        obtain ⟨rfl, hb1⟩ := hans'
        have HSET := hid hset
        have hb9 := settle_none_bound hset
        have hcn : cs.length < 230 := by have := HB.out; omega
        have hst1 := Hst.out.below hb1
        have HM := hid (more6_any p d 3 ps _ w1 hst1 ha.out.1 hcs HMO.out hu6 (by show cs.length < 1024; omega))
        clear hans hset hb1 hst1
        go_wp2_with fail
        refine HM.out.mono ?_
        rintro e w2 (⟨hlt6, c, a2, rfl, ha2, hst2⟩ | ⟨_, rfl, hst2⟩)
        rotate_left
        · have HS2 := hid hst2
          clear hst2
          go_wp2_with fail
          go_ret
          exact .inr ⟨rfl, _, HS2.out, rfl⟩
        have HA2 := hid ha2
        have hlt7 : W.used + cs.length < 6 := hlt6
        clear ha2 hlt6
        have HS2 := hid hst2
        clear hst2
        go_wp2_with fail
        go_roundw
        case rel =>
          refine ⟨cs ++ [c], a2, by simp, ha.out.snoc HA2.out, by simp; omega, by simp; omega, ?_, .inr ⟨HFU.out, cs, c, rfl, HSET.out⟩⟩
          have := HS2.out
          simpa [Hid, Nat.add_assoc] using this
        case measure => simp [intOf]; omega
      | some q =>
        obtain ⟨L', u⟩ := q
        have hans' : e = .returned (.int .i64 0) ∧ DeskStep (fun b => own1 b = 1) wr w1 d { W.D with tape := cs.drop u, sks := W.D.sks.set i { sk := { k := mgK (W.D.sks.getD i Hd.none) (W.D.sks.getD j Hd.none), lv := L', lo := mgLo (W.D.sks.getD i Hd.none) (W.D.sks.getD j Hd.none), hi := mgHi (W.D.sks.getD i Hd.none) (W.D.sks.getD j Hd.none) }, sealed := (W.D.sks.getD i Hd.none).sealed, taken := (W.D.sks.getD i Hd.none).taken } } := by
          have h9 := hans
          rw [hset] at h9
          exact h9
        obtain ⟨rfl, hst1⟩ := hans'
        have hu : u = cs.length := by
          rcases Hcs.out with ⟨e, _⟩ | ⟨_, cs', c, e, e2⟩
          · subst e; have := settle_used hset; simp at this; simpa using this
          · rw [e] at hset
            have := settle_last e2 hset
            rw [e]; simp; omega
        subst hu
        rw [List.drop_length] at hst1
        have hw1 := H1.out.deskStep H2.out HK.out hst1
        have HSET := hid hset
        have HCL := hid (clean_any p d 3 ps _ w1 hw1)
        have HAL := hid (fun (wx : World) (hx : WdSt K w0 wx p d 3 ps { W with D := { W.D with tape := [], sks := W.D.sks.set i { sk := { k := mgK (W.D.sks.getD i Hd.none) (W.D.sks.getD j Hd.none), lv := L', lo := mgLo (W.D.sks.getD i Hd.none) (W.D.sks.getD j Hd.none), hi := mgHi (W.D.sks.getD i Hd.none) (W.D.sks.getD j Hd.none) }, sealed := (W.D.sks.getD i Hd.none).sealed, taken := (W.D.sks.getD i Hd.none).taken } }, used := W.used + cs.length, at_ := a }) => all_any (K := K) (w0 := w0) p d i j _ _ ps _ wx hx hi hj CI.out CJ.out)
        have HW1 : Hid (WdSt K w0 w1 p d 3 ps { W with D := { W.D with tape := [], sks := W.D.sks.set i { sk := { k := mgK (W.D.sks.getD i Hd.none) (W.D.sks.getD j Hd.none), lv := L', lo := mgLo (W.D.sks.getD i Hd.none) (W.D.sks.getD j Hd.none), hi := mgHi (W.D.sks.getD i Hd.none) (W.D.sks.getD j Hd.none) }, sealed := (W.D.sks.getD i Hd.none).sealed, taken := (W.D.sks.getD i Hd.none).taken } }, used := W.used + cs.length, at_ := a }) := hw1
        obtain ⟨own2, vs2, vx2, vw2, h2, h2K2, hk2⟩ := hw1
        have hsd := (h2.side i hi).blk
        have hsd2 := (h2.side j hj).blk
        rw [hpi] at hsd HAL
        rw [hpj] at hsd2 HAL
        have s2' : w1.cell? ⟨pi, 2, none⟩ = some (.int .i64 ((W.sd i).n : Int)) := (blk6 hsd).2.2.1
        have t2' : w1.cell? ⟨pj, 2, none⟩ = some (.int .i64 ((W.sd j).n : Int)) := (blk6 hsd2).2.2.1
        clear hans hset hst1 h2 h2K2 hk2 hsd hsd2
        generalize (W.sd i).n = ni at *
        generalize (W.sd j).n = nj at *
        go_wp2_with (first | (go_at_call 45; refine HCL.out.mono ?_; rintro e w' ⟨rfl, hw⟩; obtain rfl := hw.symm))
        go_quiet (fail)
        go_wp2_with fail
        refine (HAL.out _ HW1.out.drewN).mono ?_
        rintro e w3 ⟨rfl, hst3⟩
        have HS3 := hid hst3
        clear hst3 HAL HW1
        go_wp2_with fail
        go_ret
        exact .inl ⟨W.joined i j L' cs.length a, rfl, HS3.out, .inr ⟨HFU.out, cs, L', a, ha.out, HSET.out, hc29, rfl⟩, hu6⟩
    · go_wp2_with fail
      refine hA.out.mono ?_
      intro e w1 hans
      rw [if_neg hfull] at hans
      obtain ⟨rfl, hb1⟩ := hans
      have hcs0 : cs = [] ∧ a = W.at_ := by
        rcases Hcs.out with e | e
        · exact e
        · exact absurd e.1 hfull
      obtain ⟨hc0, ha0⟩ := hcs0
      subst hc0
      have HA0 := hid ha0
      clear ha0
      have hst1 := Hst.out.below hb1
      have HCL := hid (clean_any p d 3 ps _ w1 hst1)
      obtain ⟨own2, vs2, vx2, vw2, h2, _⟩ := hst1
      have hsd := (h2.side i hi).blk
      have hsd2 := (h2.side j hj).blk
      rw [hpi] at hsd
      rw [hpj] at hsd2
      have s2' : w1.cell? ⟨pi, 2, none⟩ = some (.int .i64 ((W.sd i).n : Int)) := (blk6 hsd).2.2.1
      have t2' : w1.cell? ⟨pj, 2, none⟩ = some (.int .i64 ((W.sd j).n : Int)) := (blk6 hsd2).2.2.1
      have HS1 := hid (Hst.out.below hb1)
      have hfi : 268435456 - ((W.sd i).n : Int) < ((W.sd j).n : Int) := by rw [CI.out.inok.n, CJ.out.inok.n]; omega
      have hfi' : decide (268435456 - ((W.sd i).n : Int) < ((W.sd j).n : Int)) = true := decide_eq_true hfi
      have HFU := hid hfull
      clear hb1 h2 hfull hsd hsd2
      generalize (W.sd i).n = ni at *
      generalize (W.sd j).n = nj at *
      go_wp2_with (first | (go_at_call 45; refine HCL.out.mono ?_; rintro e w' ⟨rfl, hw⟩; obtain rfl := hw.symm))
      go_quiet (fail)
      go_wp2_with fail
      go_ret
      refine .inl ⟨W, rfl, ?_, .inl ⟨by have := HFU.out; omega, rfl⟩, hus⟩
      have := HS1.out
      rw [HA0.out] at this
      rw [wd_eta HTP.out]
      exact this.drewN


end Go.Proofs.Ytklicjbpjigfdaa

/- DERIVED. Plain mathematics: over all ways of the coins what the ranks are off adds up to 0, its squares to at most the spread for each way. -/
namespace Go.Proofs.Ytklicjbpjigfdaa
open Go.RowKit

/-- Added up over all ways of n coins. -/
def sumC : Nat → (List Bool → Int) → Int
  | 0, f => f []
  | n + 1, f => sumC n (fun c => f (false :: c)) + sumC n (fun c => f (true :: c))
theorem sumC_congr : ∀ {n : Nat} {f g : List Bool → Int}, (∀ c, c.length = n → f c = g c) → sumC n f = sumC n g
  | 0, _, _, h => h [] rfl
  | n + 1, _, _, h => by rw [sumC, sumC, sumC_congr (fun c hc => h (false :: c) (by simp [hc])), sumC_congr (fun c hc => h (true :: c) (by simp [hc]))]
theorem sumC_le : ∀ {n : Nat} {f g : List Bool → Int}, (∀ c, c.length = n → f c ≤ g c) → sumC n f ≤ sumC n g
  | 0, _, _, h => h [] rfl
  | n + 1, _, _, h => by
    rw [sumC, sumC]
    have h1 := sumC_le (n := n) (fun c hc => h (false :: c) (by simp [hc]))
    have h2 := sumC_le (n := n) (fun c hc => h (true :: c) (by simp [hc]))
    omega
theorem sumC_add : ∀ {n : Nat} {f g : List Bool → Int}, sumC n (fun c => f c + g c) = sumC n f + sumC n g
  | 0, _, _ => rfl
  | n + 1, f, g => by
    rw [sumC, sumC, sumC, sumC_add (f := fun c => f (false :: c)) (g := fun c => g (false :: c)), sumC_add (f := fun c => f (true :: c)) (g := fun c => g (true :: c))]
    omega
theorem sumC_const : ∀ {n : Nat} {a : Int}, sumC n (fun _ => a) = 2 ^ n * a
  | 0, a => by simp [sumC]
  | n + 1, a => by
    rw [sumC, sumC_const, Int.pow_succ]
    grind
theorem sumC_mul : ∀ {n : Nat} {a : Int} {f : List Bool → Int}, sumC n (fun c => a * f c) = a * sumC n f
  | 0, _, _ => rfl
  | n + 1, a, f => by
    rw [sumC, sumC, sumC_mul (f := fun c => f (false :: c)), sumC_mul (f := fun c => f (true :: c)), Int.mul_add]
theorem sumC_split : ∀ {u m : Nat} {f : List Bool → Int}, sumC (u + m) f = sumC u (fun c1 => sumC m (fun c2 => f (c1 ++ c2)))
  | 0, m, f => by rw [Nat.zero_add]; rfl
  | u + 1, m, f => by
    rw [show u + 1 + m = (u + m) + 1 by omega, sumC, sumC, sumC_split (u := u) (f := fun c => f (false :: c)), sumC_split (u := u) (f := fun c => f (true :: c))]
    rfl

theorem ssum_thin {c : Bool} : ∀ {L : List Lvl} {h : Nat}, h < L.length → ssum (thinL L h c) = ssum L + 4 ^ h
  | [], _, hh => by simp at hh
  | [l], 0, _ => by rw [thinL_one]; simp [ssum]
  | l :: m :: L, 0, _ => by rw [thinL_two]; simp only [ssum]; omega
  | l :: L, j + 1, hh => by
    have := ssum_thin (c := c) (L := L) (h := j) (by simpa using hh)
    rw [thinL_succ]
    simp only [ssum, this, Nat.pow_succ]; omega

/-- The coins of one settling: what the ranks move by adds up to 0; its squares to at most what the spread grows. -/
theorem settle_sums {q : Int} {X : List Int} {k : Nat} : ∀ {n u : Nat} {M : List Lvl} {R : List Bool → List Lvl} {E : Nat} {x : Int}, LvOk X M → (∀ c, c.length = n → settle k c u M = some (R c, u + n)) → (∀ c, c.length = n → ssum (R c) = E) →
    sumC n (fun c => x + ((usum q (R c) : Int) - (usum q M : Int))) = 2 ^ n * x ∧ sumC n (fun c => (x + ((usum q (R c) : Int) - (usum q M : Int))) * (x + ((usum q (R c) : Int) - (usum q M : Int)))) ≤ 2 ^ n * (x * x + (E : Int) - (ssum M : Int)) := by
  intro n
  induction n with
  | zero =>
    intro u M R E x hM hR hE
    have h1 := hR [] rfl
    have h2 := hE [] rfl
    have h3 : R [] = M := by
      cases ht : toThinL k M with
      | none => rw [settle_done ht] at h1; simp at h1; exact h1.symm
      | some r => rw [settle_short ht] at h1; simp at h1
    simp only [sumC, h3]
    rw [h3] at h2
    rw [h2]
    constructor
    · simp
    · have : x + ((usum q M : Int) - (usum q M : Int)) = x := by omega
      rw [this]; simp
  | succ n ih =>
    intro u M R E x hM hR hE
    cases ht : toThinL k M with
    | none =>
      have h1 := hR (List.replicate (n + 1) false) (by simp)
      rw [settle_done ht] at h1
      simp at h1
    | some r =>
      obtain ⟨hr, _, _⟩ := toThinL_some ht
      have step : ∀ b, (∀ c, c.length = n → settle k c (u + 1) (thinL M r b) = some (R (b :: c), u + 1 + n)) := by
        intro b c hc
        have := hR (b :: c) (by simp [hc])
        rw [settle_step ht] at this
        rw [this]
        congr 2
        omega
      have hEs : ∀ b, ∀ c, c.length = n → ssum (R (b :: c)) = E := fun b c hc => hE (b :: c) (by simp [hc])
      have i0 := ih (x := x + ((usum q (thinL M r false) : Int) - (usum q M : Int))) (hM.thin r false) (step false) (hEs false)
      have i1 := ih (x := x + ((usum q (thinL M r true) : Int) - (usum q M : Int))) (hM.thin r true) (step true) (hEs true)
      have hf := usum_fair (q := q) hr hM
      have b0 := usum_thin (q := q) (c := false) hr hM
      have s0 := ssum_thin (c := false) hr
      have s1 := ssum_thin (c := true) hr
      rw [s0] at i0
      rw [s1] at i1
      obtain ⟨d, hd⟩ : ∃ d : Int, d = (usum q (thinL M r false) : Int) - (usum q M : Int) := ⟨_, rfl⟩
      have hd1 : (usum q (thinL M r true) : Int) - (usum q M : Int) = -d := by omega
      rw [← hd] at i0
      rw [hd1] at i1
      have e0 : ∀ c, x + d + ((usum q (R (false :: c)) : Int) - (usum q (thinL M r false) : Int)) = x + ((usum q (R (false :: c)) : Int) - (usum q M : Int)) := fun c => by omega
      have e1 : ∀ c, x + -d + ((usum q (R (true :: c)) : Int) - (usum q (thinL M r true) : Int)) = x + ((usum q (R (true :: c)) : Int) - (usum q M : Int)) := fun c => by omega
      simp only [e0] at i0
      simp only [e1] at i1
      have hdd : d * d ≤ (4 : Int) ^ r := by
        have hp : (4 : Int) ^ r = (2 : Int) ^ r * (2 : Int) ^ r := by rw [← Int.mul_pow]; exact congrArg (fun z : Int => z ^ r) (by decide)
        have hb : -((2 : Int) ^ r) ≤ d ∧ d ≤ (2 : Int) ^ r := by
          have hc : ((2 ^ r : Nat) : Int) = (2 : Int) ^ r := by simp
          omega
        rw [hp]
        generalize (2 : Int) ^ r = p at *
        have h1 : 0 ≤ (p - d) * (p + d) := Int.mul_nonneg (by omega) (by omega)
        grind
      rw [sumC, sumC]
      have hpw : (2 : Int) ^ (n + 1) = 2 * 2 ^ n := by rw [Int.pow_succ]; omega
      have hnn : (0 : Int) ≤ 2 ^ n := Int.pow_nonneg (by omega)
      have hc4 : ((4 ^ r : Nat) : Int) = (4 : Int) ^ r := by simp
      rw [hpw]
      push_cast at i0 i1
      generalize (2 : Int) ^ n = p at *
      generalize (4 : Int) ^ r = f at *
      constructor
      · rw [i0.1, i1.1]; grind
      · have j0 := i0.2
        have j1 := i1.2
        have hfd : 0 ≤ p * (f - d * d) := Int.mul_nonneg hnn (by omega)
        have : p * ((x + d) * (x + d) + (E : Int) - ((ssum M : Int) + f)) + p * ((x + -d) * (x + -d) + (E : Int) - ((ssum M : Int) + f)) = 2 * p * (x * x + (E : Int) - (ssum M : Int)) - 2 * (p * (f - d * d)) := by grind
        omega

/-- A step with just these coins. -/
def AddC (i : Nat) (x : Int) (wt : Nat) (c : List Bool) (W W' : Wd) : Prop :=
  (268435456 < wsum (W.D.sks.getD i Hd.none).sk.lv + wt ∧ c = [] ∧ W' = W) ∨
  (wsum (W.D.sks.getD i Hd.none).sk.lv + wt ≤ 268435456 ∧ ∃ L', settle (W.D.sks.getD i Hd.none).sk.k c 0 (addL (W.D.sks.getD i Hd.none) x wt) = some (L', c.length) ∧ c.length ≤ 29 ∧ W' = W.took i x wt L' c.length 0)
def MergeC (i j : Nat) (c : List Bool) (W W' : Wd) : Prop :=
  (268435456 < wsum (W.D.sks.getD i Hd.none).sk.lv + wsum (W.D.sks.getD j Hd.none).sk.lv ∧ c = [] ∧ W' = W) ∨
  (wsum (W.D.sks.getD i Hd.none).sk.lv + wsum (W.D.sks.getD j Hd.none).sk.lv ≤ 268435456 ∧ ∃ L', settle (mgK (W.D.sks.getD i Hd.none) (W.D.sks.getD j Hd.none)) c 0 (mgL (W.D.sks.getD i Hd.none) (W.D.sks.getD j Hd.none)) = some (L', c.length) ∧ c.length ≤ 230 ∧ W' = W.joined i j L' c.length 0)
def StepC (s : St) (c : List Bool) (W W' : Wd) : Prop := (s.kd = 1 ∧ MergeC (pickN s.a 3) (pickN s.b 3) c W W') ∨ (s.kd ≠ 1 ∧ AddC (pickN s.a 3) s.b (weightN s.c) c W W')
def RunC : List St → List Bool → Wd → Wd → Prop
  | [], c, W, W' => c = [] ∧ W' = W
  | s :: l, c, W, W' => ∃ c1 c2 W1, c = c1 ++ c2 ∧ StepC s c1 W W1 ∧ RunC l c2 W1 W'
theorem AddC.inv {i : Nat} {x : Int} {wt : Nat} {c : List Bool} {W W' : Wd} (h : AddC i x wt c W W') (hm : MInv W) (hi : i < 3) (hw1 : 1 ≤ wt) (hw2 : wt ≤ 268435456) : MInv W' := by
  rcases h with ⟨_, _, rfl⟩ | ⟨hf, L', hs, hcs, rfl⟩
  · exact hm
  · exact minv_took hm hi hw1 hw2 hf (Nat.zero_le _) hs hcs
theorem MergeC.inv {i j : Nat} {c : List Bool} {W W' : Wd} (h : MergeC i j c W W') (hm : MInv W) (hi : i < 3) (hj : j < 3) : MInv W' := by
  rcases h with ⟨_, _, rfl⟩ | ⟨hf, L', hs, hcs, rfl⟩
  · exact hm
  · exact minv_joined hm hi hj hf (Nat.zero_le _) hs hcs
theorem StepC.inv {s : St} {c : List Bool} {W W' : Wd} (h : StepC s c W W') (hm : MInv W) : MInv W' := by
  rcases h with ⟨_, h⟩ | ⟨_, h⟩
  · exact h.inv hm (pickN_lt _ (by omega)) (pickN_lt _ (by omega))
  · exact h.inv hm (pickN_lt _ (by omega)) (weightN_bd _).1 (weightN_bd _).2

theorem took_lv {W : Wd} {i : Nat} {x : Int} {wt u a : Nat} {L' : List Lvl} (hi : i < W.D.sks.length) (j : Nat) : ((W.took i x wt L' u a).D.sks.getD j Hd.none).sk.lv = if j = i then L' else (W.D.sks.getD j Hd.none).sk.lv := by
  show ((W.D.sks.set i _).getD j Hd.none).sk.lv = _
  rw [sks_set hi]
  by_cases e : j = i
  · rw [if_pos e, if_pos e]
  · rw [if_neg e, if_neg e]
theorem joined_lv {W : Wd} {i b : Nat} {u a : Nat} {L' : List Lvl} (hi : i < W.D.sks.length) (j : Nat) : ((W.joined i b L' u a).D.sks.getD j Hd.none).sk.lv = if j = i then L' else (W.D.sks.getD j Hd.none).sk.lv := by
  show ((W.D.sks.set i _).getD j Hd.none).sk.lv = _
  rw [sks_set hi]
  by_cases e : j = i
  · rw [if_pos e, if_pos e]
  · rw [if_neg e, if_neg e]

/-- What Mid is off; the spread; the weight. -/
def Dv (q : Int) (W : Wd) (i : Nat) : Int := (usum q (W.D.sks.getD i Hd.none).sk.lv : Int) - (wFilter (fun x => decide (x ≤ q)) (W.sd i).xs (W.sd i).ws : Int)
def Sv (W : Wd) (i : Nat) : Int := (ssum (W.D.sks.getD i Hd.none).sk.lv : Int)
def Nv (W : Wd) (i : Nat) : Nat := if i < 3 then wsum (W.D.sks.getD i Hd.none).sk.lv else 0

theorem ssum_setItems (L : List Lvl) (h : Nat) (X : List Int) : ssum (setItems L h X) = ssum L := by
  induction L generalizing h with
  | nil => simp [setItems]
  | cons l L ih =>
    cases h with
    | zero => simp [setItems, ssum]
    | succ h =>
      have := ih h
      simp only [setItems, List.getD_cons_succ, List.set_cons_succ, ssum] at this ⊢
      omega
theorem ssum_snoc (L : List Lvl) : ssum (L ++ [Lvl.none]) = ssum L := by
  induction L with
  | nil => rfl
  | cons l L ih => simp only [List.cons_append, ssum, ih]
theorem ssum_with {x : Int} : ∀ {f w h : Nat} {L : List Lvl}, ssum (withFrom x f w h L) = ssum L := by
  intro f
  induction f with
  | zero => intro w h L; rfl
  | succ f ih =>
    intro w h L
    by_cases h0 : w = 0
    · subst h0; rw [withFrom_zero]
    · rw [withFrom_step (by omega), ih]
      have e1 : ssum (at1 L h) = ssum L := by
        unfold at1; split
        · exact ssum_snoc L
        · rfl
      unfold bit1; split
      · rw [ssum_setItems, e1]
      · exact e1

/-- Does the step let another sketch in? -/
def flows (s : St) (ns : Nat → Nat) : Bool := decide (s.kd = 1 ∧ ns (pickN s.a 3) + ns (pickN s.b 3) ≤ 268435456)
def nsStep (s : St) (ns : Nat → Nat) : Nat → Nat := fun i => if i = pickN s.a 3 then (if s.kd = 1 then (if ns i + ns (pickN s.b 3) ≤ 268435456 then ns i + ns (pickN s.b 3) else ns i) else (if ns i + weightN s.c ≤ 268435456 then ns i + weightN s.c else ns i)) else ns i

/-- One step with u coins: the others are as they were; of the one that turns: the sums over the coins. -/
def StepOut (q : Int) (s : St) (W : Wd) (u : Nat) (F : List Bool → Wd) : Prop :=
    (∀ c, c.length = u → ∀ i, i < 3 → i ≠ pickN s.a 3 → Dv q (F c) i = Dv q W i ∧ Sv (F c) i = Sv W i) ∧ (∀ c, c.length = u → Nv (F c) = nsStep s (Nv W)) ∧
    ∃ Ea : Int, (∀ c, c.length = u → Sv (F c) (pickN s.a 3) = Ea) ∧ ∀ x : Int,
      sumC u (fun c => x + Dv q (F c) (pickN s.a 3)) = 2 ^ u * (x + (Dv q W (pickN s.a 3) + (if flows s (Nv W) then Dv q W (pickN s.b 3) else 0))) ∧
      sumC u (fun c => (x + Dv q (F c) (pickN s.a 3)) * (x + Dv q (F c) (pickN s.a 3))) ≤ 2 ^ u * ((x + (Dv q W (pickN s.a 3) + (if flows s (Nv W) then Dv q W (pickN s.b 3) else 0))) * (x + (Dv q W (pickN s.a 3) + (if flows s (Nv W) then Dv q W (pickN s.b 3) else 0))) + Ea - (Sv W (pickN s.a 3) + (if flows s (Nv W) then Sv W (pickN s.b 3) else 0)))
theorem StepOut.none {q : Int} {s : St} {W : Wd} {u : Nat} {F : List Bool → Wd} (h0 : ∀ c, c.length = u → c = [] ∧ F c = W) (hfl : flows s (Nv W) = false) (hns : nsStep s (Nv W) = Nv W) : StepOut q s W u F := by
  have hu : u = 0 := by
    have := (h0 (List.replicate u false) (by simp)).1
    have h9 := congrArg List.length this
    simpa using h9
  subst hu
  have hW := (h0 [] rfl).2
  refine ⟨fun c hc i _ _ => by rw [(h0 c hc).2]; exact ⟨rfl, rfl⟩, fun c hc => by rw [(h0 c hc).2, hns], Sv W (pickN s.a 3), fun c hc => by rw [(h0 c hc).2], fun x => ?_⟩
  rw [hfl]
  simp only [sumC, hW]
  constructor
  · simp
  · simp
theorem step_core {q : Int} {X : List Int} {k u : Nat} {M : List Lvl} {r : Nat} {B T : Int} {L : List Bool → List Lvl} (hM : LvOk X M) (hL : ∀ c, c.length = u → settle k c 0 M = some (L c, c.length)) (hB : (usum q M : Int) - (r : Int) = B) (hT : (ssum M : Int) = T) :
    ∃ Ea : Int, (∀ c, c.length = u → (ssum (L c) : Int) = Ea) ∧ ∀ x : Int, sumC u (fun c => x + ((usum q (L c) : Int) - (r : Int))) = 2 ^ u * (x + B) ∧ sumC u (fun c => (x + ((usum q (L c) : Int) - (r : Int))) * (x + ((usum q (L c) : Int) - (r : Int)))) ≤ 2 ^ u * ((x + B) * (x + B) + Ea - T) := by
  have hconst : ∀ c, c.length = u → ssum (L c) = ssum (L (List.replicate u false)) := by
    intro c hc
    have h1 := hL c hc
    have h2 := hL (List.replicate u false) (by simp)
    have := (sh_settle (u := 0) rfl (by rw [Nat.zero_add]; exact h1) (by rw [Nat.zero_add]; exact h2)).1
    exact (sh_sums this).2.2.2.1
  refine ⟨(ssum (L (List.replicate u false)) : Int), fun c hc => by rw [hconst c hc], fun x => ?_⟩
  have h := settle_sums (q := q) (n := u) (u := 0) (M := M) (R := L) (E := ssum (L (List.replicate u false))) (x := x + B) hM (fun c hc => by rw [hL c hc, hc, Nat.zero_add]) hconst
  have e : ∀ c, x + B + ((usum q (L c) : Int) - (usum q M : Int)) = x + ((usum q (L c) : Int) - (r : Int)) := fun c => by omega
  simp only [e] at h
  rw [← hT]
  exact h

theorem all_flt {a b : Hd} {s t : Sd} (ha : Came a s) (hb : Came b t) (p : Int → Bool) : wFilter p (s.all t).xs (s.all t).ws = wFilter p s.xs s.ws + wFilter p t.xs t.ws := by
  obtain ⟨f1, f2, f3, f4, f5, f6, f7⟩ := putN_facts (s := s) ha.len ha.pos hb.len hb.pos t.xs.length (Nat.le_refl _)
  have := f7 p
  rw [List.take_length, hb.len, List.take_length] at this
  rw [← hb.len] at this
  exact this

theorem step_sums {q : Int} {s : St} {W : Wd} {u : Nat} {F : List Bool → Wd} (hm : MInv W) (hF : ∀ c, c.length = u → StepC s c W (F c)) : StepOut q s W u F := by
  have ha : pickN s.a 3 < 3 := pickN_lt _ (by omega)
  have hb : pickN s.b 3 < 3 := pickN_lt _ (by omega)
  have hwt := weightN_bd s.c
  have hna : Nv W (pickN s.a 3) = wsum (W.D.sks.getD (pickN s.a 3) Hd.none).sk.lv := if_pos ha
  have hnb : Nv W (pickN s.b 3) = wsum (W.D.sks.getD (pickN s.b 3) Hd.none).sk.lv := if_pos hb
  have hil : pickN s.a 3 < W.D.sks.length := by rw [hm.len]; exact ha
  have hca := hm.came _ ha
  have hcb := hm.came _ hb
  by_cases hkd : s.kd = 1
  · have hF' : ∀ c, c.length = u → MergeC (pickN s.a 3) (pickN s.b 3) c W (F c) := fun c hc => by
      rcases hF c hc with ⟨_, h⟩ | ⟨h, _⟩
      · exact h
      · exact absurd hkd h
    by_cases hfull : wsum (W.D.sks.getD (pickN s.a 3) Hd.none).sk.lv + wsum (W.D.sks.getD (pickN s.b 3) Hd.none).sk.lv ≤ 268435456
    · have hfl : flows s (Nv W) = true := by unfold flows; rw [hna, hnb]; exact decide_eq_true ⟨hkd, hfull⟩
      have hFs : ∀ c, c.length = u → settle (mgK (W.D.sks.getD (pickN s.a 3) Hd.none) (W.D.sks.getD (pickN s.b 3) Hd.none)) c 0 (mgL (W.D.sks.getD (pickN s.a 3) Hd.none) (W.D.sks.getD (pickN s.b 3) Hd.none)) = some (((F c).D.sks.getD (pickN s.a 3) Hd.none).sk.lv, c.length) ∧ (∀ i, i ≠ pickN s.a 3 → ((F c).D.sks.getD i Hd.none).sk.lv = (W.D.sks.getD i Hd.none).sk.lv) ∧ (F c).sd = fun i => if i = pickN s.a 3 then (W.sd (pickN s.a 3)).all (W.sd (pickN s.b 3)) else W.sd i := fun c hc => by
        rcases hF' c hc with ⟨h, _⟩ | ⟨_, L', hs, _, hW⟩
        · omega
        · rw [hW]
          refine ⟨by rw [joined_lv hil, if_pos rfl]; exact hs, fun i hi => by rw [joined_lv hil, if_neg hi], rfl⟩
      have hLw : LvOk ((W.sd (pickN s.a 3)).all (W.sd (pickN s.b 3))).xs (mgL (W.D.sks.getD (pickN s.a 3) Hd.none) (W.D.sks.getD (pickN s.b 3) Hd.none)) := by
        obtain ⟨f1, f2, f3, f4, f5, f6, f7⟩ := putN_facts (s := W.sd (pickN s.a 3)) hca.len hca.pos hcb.len hcb.pos (W.sd (pickN s.b 3)).xs.length (Nat.le_refl _)
        refine LvOk.merge (hca.lvok.mono f3) (hcb.lvok.mono (fun y hy => ?_))
        obtain ⟨t, ht, rfl⟩ := List.mem_iff_getElem.1 hy
        have := f4 t ht
        simpa [List.getD, ht, Sd.all] using this
      have hr := all_flt hca hcb (fun x => decide (x ≤ q))
      obtain ⟨Ea, h1, h2⟩ := step_core (q := q) (r := wFilter (fun x => decide (x ≤ q)) ((W.sd (pickN s.a 3)).all (W.sd (pickN s.b 3))).xs ((W.sd (pickN s.a 3)).all (W.sd (pickN s.b 3))).ws) (B := Dv q W (pickN s.a 3) + Dv q W (pickN s.b 3)) (T := Sv W (pickN s.a 3) + Sv W (pickN s.b 3)) (L := fun c => ((F c).D.sks.getD (pickN s.a 3) Hd.none).sk.lv) hLw (fun c hc => (hFs c hc).1) (by
        unfold mgL Dv
        rw [usum_merge, hr]; omega) (by
        unfold mgL Sv
        rw [ssum_merge]; omega)
      refine ⟨fun c hc i hi hne => ?_, fun c hc => ?_, Ea, fun c hc => h1 c hc, fun x => ?_⟩
      · unfold Dv Sv
        rw [(hFs c hc).2.1 i hne, (hFs c hc).2.2]
        simp only [if_neg hne]
        exact ⟨trivial, trivial⟩
      · funext i
        unfold nsStep Nv
        by_cases hi3 : i < 3
        · rw [if_pos hi3]
          by_cases hia : i = pickN s.a 3
          · subst hia
            rw [if_pos rfl, if_pos hkd, if_pos hi3, if_pos hb, if_pos hfull]
            have hk := settle_keeps (hFs c hc).1 (by unfold mgL; rw [mergeL_wsum]; exact hfull) (by unfold mgL; rw [mergeL_length]; have := hca.inok.ok.len; have := hcb.inok.ok.len; omega)
            rw [hk.1]; unfold mgL; rw [mergeL_wsum]
          · rw [if_neg hia, if_pos hi3, (hFs c hc).2.1 i hia]
        · rw [if_neg hi3, if_neg (by intro e; omega), if_neg hi3]
      · rw [hfl]
        simp only [if_true]
        have hD : ∀ c, c.length = u → Dv q (F c) (pickN s.a 3) = (usum q ((F c).D.sks.getD (pickN s.a 3) Hd.none).sk.lv : Int) - (wFilter (fun x => decide (x ≤ q)) ((W.sd (pickN s.a 3)).all (W.sd (pickN s.b 3))).xs ((W.sd (pickN s.a 3)).all (W.sd (pickN s.b 3))).ws : Int) := fun c hc => by
          unfold Dv; rw [(hFs c hc).2.2]; simp only [if_true]
        rw [sumC_congr (fun c hc => by rw [hD c hc]), sumC_congr (f := fun c => (x + Dv q (F c) (pickN s.a 3)) * (x + Dv q (F c) (pickN s.a 3))) (fun c hc => by rw [hD c hc])]
        exact h2 x
    · have hfl : flows s (Nv W) = false := by unfold flows; rw [hna, hnb]; exact decide_eq_false (fun h => hfull h.2)
      refine StepOut.none (fun c hc => ?_) hfl ?_
      · rcases hF' c hc with ⟨_, h⟩ | ⟨h, _⟩
        · exact h
        · exact absurd h hfull
      · funext i
        unfold nsStep
        by_cases hia : i = pickN s.a 3
        · subst hia
          rw [if_pos rfl, if_pos hkd, hna, hnb, if_neg hfull]
        · rw [if_neg hia]
  · have hF' : ∀ c, c.length = u → AddC (pickN s.a 3) s.b (weightN s.c) c W (F c) := fun c hc => by
      rcases hF c hc with ⟨h, _⟩ | ⟨_, h⟩
      · exact absurd h hkd
      · exact h
    have hfl : flows s (Nv W) = false := by unfold flows; exact decide_eq_false (fun h => hkd h.1)
    by_cases hfull : wsum (W.D.sks.getD (pickN s.a 3) Hd.none).sk.lv + weightN s.c ≤ 268435456
    · have hlt : weightN s.c < 2 ^ 29 := Nat.lt_of_le_of_lt hwt.2 (by decide)
      have hFs : ∀ c, c.length = u → settle (W.D.sks.getD (pickN s.a 3) Hd.none).sk.k c 0 (addL (W.D.sks.getD (pickN s.a 3) Hd.none) s.b (weightN s.c)) = some (((F c).D.sks.getD (pickN s.a 3) Hd.none).sk.lv, c.length) ∧ (∀ i, i ≠ pickN s.a 3 → ((F c).D.sks.getD i Hd.none).sk.lv = (W.D.sks.getD i Hd.none).sk.lv) ∧ (F c).sd = fun i => if i = pickN s.a 3 then (W.sd (pickN s.a 3)).took s.b (weightN s.c) else W.sd i := fun c hc => by
        rcases hF' c hc with ⟨h, _⟩ | ⟨_, L', hs, _, hW⟩
        · omega
        · rw [hW]
          refine ⟨by rw [took_lv hil, if_pos rfl]; exact hs, fun i hi => by rw [took_lv hil, if_neg hi], rfl⟩
      have hLw : LvOk (putXs (W.sd (pickN s.a 3)) s.b) (addL (W.D.sks.getD (pickN s.a 3) Hd.none) s.b (weightN s.c)) := LvOk.with (put_facts (x := s.b) (wt := weightN s.c) hca.len).2.2.1 (hca.lvok.mono (put_facts (x := s.b) (wt := weightN s.c) hca.len).2.2.2.1)
      have hr : wFilter (fun x => decide (x ≤ q)) ((W.sd (pickN s.a 3)).took s.b (weightN s.c)).xs ((W.sd (pickN s.a 3)).took s.b (weightN s.c)).ws = wFilter (fun x => decide (x ≤ q)) (W.sd (pickN s.a 3)).xs (W.sd (pickN s.a 3)).ws + (if s.b ≤ q then weightN s.c else 0) := by
        have := wFilter_put (fun x => decide (x ≤ q)) (s := W.sd (pickN s.a 3)) (x := s.b) (wt := weightN s.c) hca.len
        simp only [decide_eq_true_eq] at this
        exact this
      obtain ⟨Ea, h1, h2⟩ := step_core (q := q) (r := wFilter (fun x => decide (x ≤ q)) ((W.sd (pickN s.a 3)).took s.b (weightN s.c)).xs ((W.sd (pickN s.a 3)).took s.b (weightN s.c)).ws) (B := Dv q W (pickN s.a 3)) (T := Sv W (pickN s.a 3)) (L := fun c => ((F c).D.sks.getD (pickN s.a 3) Hd.none).sk.lv) hLw (fun c hc => (hFs c hc).1) (by
        unfold addL Dv
        rw [usum_with hlt (Nat.zero_le _), hr, Nat.pow_zero, Nat.one_mul]; omega) (by
        unfold addL Sv
        rw [ssum_with])
      refine ⟨fun c hc i hi hne => ?_, fun c hc => ?_, Ea, fun c hc => h1 c hc, fun x => ?_⟩
      · unfold Dv Sv
        rw [(hFs c hc).2.1 i hne, (hFs c hc).2.2]
        simp only [if_neg hne]
        exact ⟨trivial, trivial⟩
      · funext i
        unfold nsStep Nv
        by_cases hi3 : i < 3
        · rw [if_pos hi3]
          by_cases hia : i = pickN s.a 3
          · subst hia
            rw [if_pos rfl, if_neg hkd, if_pos hi3, if_pos hfull]
            have hk := settle_keeps (hFs c hc).1 (by unfold addL; rw [withFrom_wsum hlt (Nat.zero_le _)]; simp; simpa using hfull) (withFrom_length hlt (Nat.zero_le _) hca.inok.ok.len (by omega))
            rw [hk.1]; unfold addL; rw [withFrom_wsum hlt (Nat.zero_le _)]; simp
          · rw [if_neg hia, if_pos hi3, (hFs c hc).2.1 i hia]
        · rw [if_neg hi3, if_neg (by intro e; omega), if_neg hi3]
      · rw [hfl]
        simp only [Bool.false_eq_true, if_false, Int.add_zero]
        have hD : ∀ c, c.length = u → Dv q (F c) (pickN s.a 3) = (usum q ((F c).D.sks.getD (pickN s.a 3) Hd.none).sk.lv : Int) - (wFilter (fun x => decide (x ≤ q)) ((W.sd (pickN s.a 3)).took s.b (weightN s.c)).xs ((W.sd (pickN s.a 3)).took s.b (weightN s.c)).ws : Int) := fun c hc => by
          unfold Dv; rw [(hFs c hc).2.2]; simp only [if_true]
        rw [sumC_congr (fun c hc => by rw [hD c hc]), sumC_congr (f := fun c => (x + Dv q (F c) (pickN s.a 3)) * (x + Dv q (F c) (pickN s.a 3))) (fun c hc => by rw [hD c hc])]
        exact h2 x
    · refine StepOut.none (fun c hc => ?_) hfl ?_
      · rcases hF' c hc with ⟨_, h⟩ | ⟨h, _⟩
        · exact h
        · exact absurd h hfull
      · funext i
        unfold nsStep
        by_cases hia : i = pickN s.a 3
        · subst hia
          rw [if_pos rfl, if_neg hkd, hna, if_neg hfull]
        · rw [if_neg hia]


/-- What flows into which sketch, over the rest of a script. -/
def flow : List St → (Nat → Nat) → Nat → Nat → Nat
  | [], _ => fun i j => if i = j then 1 else 0
  | s :: l, ns => fun i j => flow l (nsStep s ns) i j + (if flows s ns = true ∧ j = pickN s.b 3 then flow l (nsStep s ns) i (pickN s.a 3) else 0)
/-- A sketch that came into another is left alone; none comes into itself. -/
def GoodG : (Nat → Bool) → List St → Prop
  | _, [] => True
  | G, s :: l => G (pickN s.a 3) = false ∧ (s.kd = 1 → pickN s.a 3 ≠ pickN s.b 3 ∧ G (pickN s.b 3) = false) ∧ GoodG (if s.kd = 1 then (fun j => if j = pickN s.b 3 then true else G j) else G) l
structure Flow (G : Nat → Bool) (A : Nat → Nat → Nat) : Prop where
  le : ∀ i j, A i j ≤ 1
  col : ∀ i j, G j = true → A i j = if i = j then 1 else 0
  row : ∀ i j, G i = true → A i j = if i = j then 1 else 0
theorem flow_good : ∀ {l : List St} {G : Nat → Bool} {ns : Nat → Nat}, GoodG G l → Flow G (flow l ns)
  | [], _, _, _ => ⟨fun i j => by unfold flow; split <;> omega, fun i j _ => rfl, fun i j _ => rfl⟩
  | s :: l, G, ns, ⟨h1, h2, h3⟩ => by
    have ih := flow_good (ns := nsStep s ns) h3
    by_cases hf : flows s ns = true
    · have hkd : s.kd = 1 := by
        unfold flows at hf
        exact (of_decide_eq_true hf).1
      rw [if_pos hkd] at ih
      obtain ⟨hne, hb⟩ := h2 hkd
      have tb : ∀ i, flow l (nsStep s ns) i (pickN s.b 3) = if i = pickN s.b 3 then 1 else 0 := fun i => ih.col i _ (by simp)
      have fb : ∀ j, flow l (nsStep s ns) (pickN s.b 3) j = if pickN s.b 3 = j then 1 else 0 := fun j => ih.row _ j (by simp)
      refine ⟨fun i j => ?_, fun i j hj => ?_, fun i j hi => ?_⟩
      · show flow l (nsStep s ns) i j + _ ≤ 1
        by_cases hjb : j = pickN s.b 3
        · rw [if_pos ⟨hf, hjb⟩, hjb, tb]
          have := ih.le i (pickN s.a 3)
          by_cases hib : i = pickN s.b 3
          · rw [if_pos hib, hib, fb, if_neg (fun e => hne e.symm)]; omega
          · rw [if_neg hib]; omega
        · rw [if_neg (fun h => hjb h.2)]
          have := ih.le i j; omega
      · show flow l (nsStep s ns) i j + _ = _
        have hjb : j ≠ pickN s.b 3 := fun e => by rw [e, hb] at hj; cases hj
        rw [if_neg (fun h => hjb h.2), ih.col i j (by simp [hjb, hj])]; omega
      · show flow l (nsStep s ns) i j + _ = _
        have hib : i ≠ pickN s.b 3 := fun e => by rw [e, hb] at hi; cases hi
        have hia : i ≠ pickN s.a 3 := fun e => by rw [e, h1] at hi; cases hi
        rw [ih.row i j (by simp [hib, hi]), ih.row i (pickN s.a 3) (by simp [hib, hi]), if_neg hia]
        simp
    · have hA : ∀ i j, flow (s :: l) ns i j = flow l (nsStep s ns) i j := fun i j => by
        show flow l (nsStep s ns) i j + _ = _
        rw [if_neg (fun h => hf h.1)]; omega
      by_cases hkd : s.kd = 1
      · rw [if_pos hkd] at ih
        refine ⟨fun i j => by rw [hA]; exact ih.le i j, fun i j hj => by rw [hA]; exact ih.col i j (by show (if j = pickN s.b 3 then true else G j) = true; split <;> first | rfl | exact hj), fun i j hi => by rw [hA]; exact ih.row i j (by show (if i = pickN s.b 3 then true else G i) = true; split <;> first | rfl | exact hi)⟩
      · rw [if_neg hkd] at ih
        exact ⟨fun i j => by rw [hA]; exact ih.le i j, fun i j hj => by rw [hA]; exact ih.col i j hj, fun i j hi => by rw [hA]; exact ih.row i j hi⟩

def lin (A : Nat → Nat → Nat) (f : Nat → Int) (i : Nat) : Int := (A i 0 : Int) * f 0 + (A i 1 : Int) * f 1 + (A i 2 : Int) * f 2
theorem lin_turn {A : Nat → Nat → Nat} {f g : Nat → Int} {i a : Nat} (ha : a < 3) (h : ∀ j, j < 3 → j ≠ a → g j = f j) : lin A g i = lin A f i - (A i a : Int) * f a + (A i a : Int) * g a := by
  have : a = 0 ∨ a = 1 ∨ a = 2 := by omega
  unfold lin
  rcases this with rfl | rfl | rfl
  · rw [h 1 (by omega) (by omega), h 2 (by omega) (by omega)]; omega
  · rw [h 0 (by omega) (by omega), h 2 (by omega) (by omega)]; omega
  · rw [h 0 (by omega) (by omega), h 1 (by omega) (by omega)]; omega
theorem lin_flow {s : St} {l : List St} {ns : Nat → Nat} {f : Nat → Int} {i : Nat} : lin (flow (s :: l) ns) f i = lin (flow l (nsStep s ns)) f i + (flow l (nsStep s ns) i (pickN s.a 3) : Int) * (if flows s ns then f (pickN s.b 3) else 0) := by
  have hb : pickN s.b 3 < 3 := pickN_lt _ (by omega)
  have hA : ∀ j, flow (s :: l) ns i j = flow l (nsStep s ns) i j + (if flows s ns = true ∧ j = pickN s.b 3 then flow l (nsStep s ns) i (pickN s.a 3) else 0) := fun j => rfl
  unfold lin
  rw [hA, hA, hA]
  generalize flow l (nsStep s ns) i (pickN s.a 3) = v
  generalize flow l (nsStep s ns) i = B
  cases hf : flows s ns
  · simp
  · simp only [true_and, if_true]
    have : pickN s.b 3 = 0 ∨ pickN s.b 3 = 1 ∨ pickN s.b 3 = 2 := by omega
    rcases this with e | e | e <;> rw [e] <;> simp <;> grind

theorem stepC_len {s : St} {c c' : List Bool} {W A B : Wd} (h : StepC s c W A) (h' : StepC s c' W B) : c.length = c'.length := by
  rcases h with ⟨k1, h⟩ | ⟨k1, h⟩
  · rcases h' with ⟨_, h'⟩ | ⟨k2, _⟩
    · rcases h with ⟨fa, rfl, _⟩ | ⟨fa, L', sa, _, _⟩
      · rcases h' with ⟨_, rfl, _⟩ | ⟨fb, _⟩
        · rfl
        · omega
      · rcases h' with ⟨fb, _⟩ | ⟨_, T', sb, _, _⟩
        · omega
        · exact (sh_settle (u := 0) rfl (by rw [Nat.zero_add]; exact sa) (by rw [Nat.zero_add]; exact sb)).2
    · exact absurd k1 k2
  · rcases h' with ⟨k2, _⟩ | ⟨_, h'⟩
    · exact absurd k2 k1
    · rcases h with ⟨fa, rfl, _⟩ | ⟨fa, L', sa, _, _⟩
      · rcases h' with ⟨_, rfl, _⟩ | ⟨fb, _⟩
        · rfl
        · omega
      · rcases h' with ⟨fb, _⟩ | ⟨_, T', sb, _, _⟩
        · omega
        · exact (sh_settle (u := 0) rfl (by rw [Nat.zero_add]; exact sa) (by rw [Nat.zero_add]; exact sb)).2
theorem stepC_det {s : St} {c : List Bool} {W A B : Wd} (h : StepC s c W A) (h' : StepC s c W B) : A = B := by
  rcases h with ⟨k1, h⟩ | ⟨k1, h⟩
  · rcases h' with ⟨_, h'⟩ | ⟨k2, _⟩
    · rcases h with ⟨fa, _, rfl⟩ | ⟨fa, L', sa, _, rfl⟩
      · rcases h' with ⟨_, _, rfl⟩ | ⟨fb, _⟩
        · rfl
        · omega
      · rcases h' with ⟨fb, _⟩ | ⟨_, T', sb, _, rfl⟩
        · omega
        · rw [sa] at sb; simp at sb; rw [sb]
    · exact absurd k1 k2
  · rcases h' with ⟨k2, _⟩ | ⟨_, h'⟩
    · exact absurd k2 k1
    · rcases h with ⟨fa, _, rfl⟩ | ⟨fa, L', sa, _, rfl⟩
      · rcases h' with ⟨_, _, rfl⟩ | ⟨fb, _⟩
        · rfl
        · omega
      · rcases h' with ⟨fb, _⟩ | ⟨_, T', sb, _, rfl⟩
        · omega
        · rw [sa] at sb; simp at sb; rw [sb]

/-- All of a script, over all ways of its coins. -/
theorem run_sums {q : Int} : ∀ {l : List St} {W : Wd} {n : Nat} {R : List Bool → Wd} {E : Nat → Int} {G : Nat → Bool}, MInv W → GoodG G l → (∀ c, c.length = n → RunC l c W (R c)) → (∀ c, c.length = n → ∀ i, i < 3 → Sv (R c) i = E i) → ∀ i, i < 3 →
    sumC n (fun c => Dv q (R c) i) = 2 ^ n * lin (flow l (Nv W)) (Dv q W) i ∧ sumC n (fun c => Dv q (R c) i * Dv q (R c) i) ≤ 2 ^ n * (lin (flow l (Nv W)) (Dv q W) i * lin (flow l (Nv W)) (Dv q W) i + E i - lin (flow l (Nv W)) (Sv W) i) := by
  intro l
  induction l with
  | nil =>
    intro W n R E G hm hG hR hE i hi
    have hn : n = 0 := by
      have := (hR (List.replicate n false) (by simp)).1
      have h9 := congrArg List.length this
      simpa using h9
    subst hn
    have hW : R [] = W := (hR [] rfl).2
    have he := hE [] rfl i hi
    have hl : ∀ f : Nat → Int, lin (flow [] (Nv W)) f i = f i := by
      intro f
      unfold lin flow
      have : i = 0 ∨ i = 1 ∨ i = 2 := by omega
      rcases this with rfl | rfl | rfl <;> simp
    rw [hl, hl]
    simp only [sumC, hW]
    rw [hW] at he
    rw [he]
    constructor
    · simp
    · simp
  | cons s l ih =>
    intro W n R E G hm hG hR hE i hi
    obtain ⟨g1, g2, g3⟩ := hG
    obtain ⟨c1, c2, W1, ec, hs1, _⟩ := hR (List.replicate n false) (by simp)
    obtain ⟨u, hu⟩ : ∃ u, u = c1.length := ⟨_, rfl⟩
    obtain ⟨m, hmn⟩ : ∃ m, n = u + m := ⟨c2.length, by have := congrArg List.length ec; simp at this; omega⟩
    subst hmn
    -- the world behind the first step
    have hsplit : ∀ d1 d2 : List Bool, d1.length = u → d2.length = m → ∃ V, StepC s d1 W V ∧ RunC l d2 V (R (d1 ++ d2)) := by
      intro d1 d2 h1 h2
      obtain ⟨e1, e2, V, ee, hs, hr⟩ := hR (d1 ++ d2) (by simp [h1, h2])
      have hl := stepC_len hs hs1
      obtain ⟨a1, a2⟩ := List.append_inj ee (by omega)
      subst a1 a2
      exact ⟨V, hs, hr⟩
    have hex : ∀ d1 : List Bool, ∃ V, d1.length = u → StepC s d1 W V := fun d1 => by
      by_cases h1 : d1.length = u
      · obtain ⟨V, hV, _⟩ := hsplit d1 (List.replicate m false) h1 (by simp)
        exact ⟨V, fun _ => hV⟩
      · exact ⟨W, fun h => absurd h h1⟩
    obtain ⟨F, hF⟩ : ∃ F : List Bool → Wd, ∀ d1, d1.length = u → StepC s d1 W (F d1) := ⟨fun d1 => Classical.choose (hex d1), fun d1 => Classical.choose_spec (hex d1)⟩
    have hrun : ∀ d1, d1.length = u → ∀ d2, d2.length = m → RunC l d2 (F d1) (R (d1 ++ d2)) := by
      intro d1 h1 d2 h2
      obtain ⟨V, hV, hr⟩ := hsplit d1 d2 h1 h2
      rw [stepC_det (hF d1 h1) hV]
      exact hr
    obtain ⟨o1, o2, Ea, o3, o4⟩ := step_sums (q := q) hm hF
    have hin := fun (d1 : List Bool) (h1 : d1.length = u) => ih (W := F d1) (n := m) (R := fun d2 => R (d1 ++ d2)) (E := E) ((hF d1 h1).inv hm) g3 (hrun d1 h1) (fun d2 h2 => hE (d1 ++ d2) (by simp [h1, h2])) i hi
    have ha : pickN s.a 3 < 3 := pickN_lt _ (by omega)
    have hA1 := (flow_good (ns := nsStep s (Nv W)) g3).le i (pickN s.a 3)
    rw [lin_flow, lin_flow]
    obtain ⟨v, hv⟩ : ∃ v, v = flow l (nsStep s (Nv W)) i (pickN s.a 3) := ⟨_, rfl⟩
    obtain ⟨x, hx⟩ : ∃ x : Int, x = lin (flow l (nsStep s (Nv W))) (Dv q W) i - (v : Int) * Dv q W (pickN s.a 3) := ⟨_, rfl⟩
    obtain ⟨y, hy⟩ : ∃ y : Int, y = lin (flow l (nsStep s (Nv W))) (Sv W) i - (v : Int) * Sv W (pickN s.a 3) := ⟨_, rfl⟩
    have hlD : ∀ d1, d1.length = u → lin (flow l (nsStep s (Nv W))) (Dv q (F d1)) i = x + (v : Int) * Dv q (F d1) (pickN s.a 3) := fun d1 h1 => by
      rw [lin_turn ha (fun j hj hne => (o1 d1 h1 j hj hne).1), ← hv, hx]
    have hlS : ∀ d1, d1.length = u → lin (flow l (nsStep s (Nv W))) (Sv (F d1)) i = y + (v : Int) * Ea := fun d1 h1 => by
      rw [lin_turn ha (fun j hj hne => (o1 d1 h1 j hj hne).2), ← hv, hy, o3 d1 h1]
    rw [← hv] at hA1 ⊢
    have e1 : lin (flow l (nsStep s (Nv W))) (Dv q W) i = x + (v : Int) * Dv q W (pickN s.a 3) := by rw [hx]; omega
    have e2 : lin (flow l (nsStep s (Nv W))) (Sv W) i = y + (v : Int) * Sv W (pickN s.a 3) := by rw [hy]; omega
    rw [e1, e2]
    have s1 : sumC (u + m) (fun c => Dv q (R c) i) = 2 ^ m * sumC u (fun d1 => x + (v : Int) * Dv q (F d1) (pickN s.a 3)) := by
      rw [sumC_split, ← sumC_mul]
      refine sumC_congr (fun d1 h1 => ?_)
      have := (hin d1 h1).1
      rw [o2 d1 h1, hlD d1 h1] at this
      exact this
    have s2 : sumC (u + m) (fun c => Dv q (R c) i * Dv q (R c) i) ≤ 2 ^ m * sumC u (fun d1 => (x + (v : Int) * Dv q (F d1) (pickN s.a 3)) * (x + (v : Int) * Dv q (F d1) (pickN s.a 3)) + (E i - (y + (v : Int) * Ea))) := by
      rw [sumC_split, ← sumC_mul]
      refine sumC_le (fun d1 h1 => ?_)
      have := (hin d1 h1).2
      rw [o2 d1 h1, hlD d1 h1, hlS d1 h1] at this
      have e : (x + (v : Int) * Dv q (F d1) (pickN s.a 3)) * (x + (v : Int) * Dv q (F d1) (pickN s.a 3)) + E i - (y + (v : Int) * Ea) = (x + (v : Int) * Dv q (F d1) (pickN s.a 3)) * (x + (v : Int) * Dv q (F d1) (pickN s.a 3)) + (E i - (y + (v : Int) * Ea)) := by omega
      rw [e] at this
      exact this
    rw [sumC_add, sumC_const] at s2
    have hpw : (2 : Int) ^ (u + m) = 2 ^ m * 2 ^ u := by rw [Int.pow_add, Int.mul_comm]
    have hnn : (0 : Int) ≤ 2 ^ m := Int.pow_nonneg (by omega)
    rw [hpw, s1]
    have hv01 : v = 0 ∨ v = 1 := by omega
    rcases hv01 with rfl | rfl
    · simp only [Int.ofNat_zero, Int.zero_mul, Int.add_zero] at s2 ⊢
      rw [sumC_const] at s2 ⊢
      constructor
      · grind
      · refine Int.le_trans s2 ?_
        generalize (2 : Int) ^ m = p at *
        generalize (2 : Int) ^ u = r at *
        have : p * (r * (x * x) + r * (E i - y)) = p * r * (x * x + E i - y) := by grind
        omega
    · obtain ⟨t1, t2⟩ := o4 x
      simp only [Int.natCast_one, Int.one_mul] at s2 ⊢
      rw [t1]
      generalize (if flows s (Nv W) = true then Dv q W (pickN s.b 3) else 0) = bD at *
      generalize (if flows s (Nv W) = true then Sv W (pickN s.b 3) else 0) = bS at *
      constructor
      · grind
      · refine Int.le_trans s2 ?_
        have t3 := Int.mul_le_mul_of_nonneg_left t2 hnn
        generalize sumC u (fun d1 => (x + Dv q (F d1) (pickN s.a 3)) * (x + Dv q (F d1) (pickN s.a 3))) = Q at *
        generalize (2 : Int) ^ m = p at *
        generalize (2 : Int) ^ u = r at *
        grind

end Go.Proofs.Ytklicjbpjigfdaa

/- DERIVED. Plain mathematics: a script that was played is a run; there is one for every way of the coins; the ways as bits of a number. -/
namespace Go.Proofs.Ytklicjbpjigfdaa
open Go.RowKit

theorem ats_add (c : ByteArray) (a m : Nat) : ∀ n, ats c a (m + n) = ats c (ats c a m) n
  | 0 => rfl
  | n + 1 => by show atOf c (ats c a (m + n)) = atOf c (ats c (ats c a m) n); rw [ats_add c a m n]
theorem drw_add (c : ByteArray) (a m : Nat) : ∀ n, drw c a (m + n) = drw c a m ++ drw c (ats c a m) n
  | 0 => by simp [drw]
  | n + 1 => by
    show drw c a (m + n) ++ [coinOf c (ats c a (m + n))] = drw c a m ++ (drw c (ats c a m) n ++ [coinOf c (ats c (ats c a m) n)])
    rw [drw_add c a m n, ats_add, List.append_assoc]

/-- Not marked as gone. -/
def Sd.here (s : Sd) : Sd := { s with gone := false }
/-- The world as the mathematics sees it. -/
def Wd.bare (W : Wd) : Wd := { W with sd := fun i => (W.sd i).here, coins := ByteArray.empty, at_ := 0, most := -1, short := false }
theorem here_took (s : Sd) (x : Int) (wt : Nat) : (s.took x wt).here = s.here.took x wt := rfl
theorem here_putN (s : Sd) (xs : List Int) (ws : List Nat) : ∀ r, (putN s xs ws r).here = putN s.here xs ws r
  | 0 => rfl
  | r + 1 => by
    show ((putN s xs ws r).put (xs.getD r 0) (ws.getD r 0)).here = (putN s.here xs ws r).put (xs.getD r 0) (ws.getD r 0)
    rw [← here_putN s xs ws r]; rfl
theorem here_all (s t : Sd) : (s.all t).here = s.here.all t.here := by
  have h := here_putN s t.xs t.ws t.xs.length
  have e : s.here.all t.here = { putN s.here t.xs t.ws t.xs.length with k := if t.k < s.k then t.k else s.k, ones := s.ones && t.ones } := rfl
  rw [e, ← h]; rfl
theorem bare_took (W : Wd) (i : Nat) (x : Int) (wt : Nat) (L' : List Lvl) (u a : Nat) : (W.took i x wt L' u a).bare = W.bare.took i x wt L' u 0 := by
  unfold Wd.bare Wd.took
  simp only [Wd.mk.injEq, and_true, true_and]
  funext j
  by_cases e : j = i
  · simp only [if_pos e]; rfl
  · simp only [if_neg e]
theorem bare_joined (W : Wd) (i b : Nat) (L' : List Lvl) (u a : Nat) : (W.joined i b L' u a).bare = W.bare.joined i b L' u 0 := by
  unfold Wd.bare Wd.joined
  simp only [Wd.mk.injEq, and_true, true_and]
  funext j
  by_cases e : j = i
  · simp only [if_pos e]; exact here_all _ _
  · simp only [if_neg e]

theorem AddR.bare {i wt : Nat} {x : Int} {W W' : Wd} (h : AddR i x wt W W') : ∃ cs, AddC i x wt cs W.bare W'.bare ∧ cs = drw W.coins W.at_ cs.length ∧ W'.at_ = ats W.coins W.at_ cs.length ∧ W'.coins = W.coins ∧ W'.used = W.used + cs.length := by
  rcases h with ⟨h1, rfl⟩ | ⟨hf, cs, L', a, hd, hs, hcs, rfl⟩
  · exact ⟨[], .inl ⟨h1, rfl, rfl⟩, rfl, rfl, rfl, rfl⟩
  · exact ⟨cs, .inr ⟨hf, L', hs, hcs, bare_took _ _ _ _ _ _ _⟩, hd.2.1, hd.2.2, rfl, rfl⟩
theorem MergeR.bare {i j : Nat} {W W' : Wd} (h : MergeR i j W W') : ∃ cs, MergeC i j cs W.bare W'.bare ∧ cs = drw W.coins W.at_ cs.length ∧ W'.at_ = ats W.coins W.at_ cs.length ∧ W'.coins = W.coins ∧ W'.used = W.used + cs.length := by
  rcases h with ⟨h1, rfl⟩ | ⟨hf, cs, L', a, hd, hs, hcs, rfl⟩
  · exact ⟨[], .inl ⟨h1, rfl, rfl⟩, rfl, rfl, rfl, rfl⟩
  · exact ⟨cs, .inr ⟨hf, L', hs, hcs, bare_joined _ _ _ _ _ _⟩, hd.2.1, hd.2.2, rfl, rfl⟩
theorem StepR.bare {s : St} {W W' : Wd} (h : StepR s.kd s.a s.b s.c W W') : ∃ cs, StepC s cs W.bare W'.bare ∧ cs = drw W.coins W.at_ cs.length ∧ W'.at_ = ats W.coins W.at_ cs.length ∧ W'.coins = W.coins ∧ W'.used = W.used + cs.length := by
  rcases h with ⟨k1, h⟩ | ⟨k1, h⟩
  · obtain ⟨cs, h1, h2⟩ := h.bare
    exact ⟨cs, .inl ⟨k1, h1⟩, h2⟩
  · obtain ⟨cs, h1, h2⟩ := h.bare
    exact ⟨cs, .inr ⟨k1, h1⟩, h2⟩
theorem PlayR.bare : ∀ {l : List St} {W W' : Wd}, PlayR l W W' → ∃ cs, RunC l cs W.bare W'.bare ∧ cs = drw W.coins W.at_ cs.length ∧ W'.used = W.used + cs.length
  | [], _, _, h => by cases h; exact ⟨[], ⟨rfl, rfl⟩, rfl, rfl⟩
  | s :: l, W, W', ⟨V, h1, h2⟩ => by
    obtain ⟨c1, a1, a2, a3, a4, a5⟩ := h1.bare
    obtain ⟨c2, b1, b2, b3⟩ := h2.bare
    refine ⟨c1 ++ c2, ⟨c1, c2, V.bare, rfl, a1, b1⟩, ?_, by rw [b3, a5, List.length_append]; omega⟩
    rw [List.length_append, drw_add, ← a2, ← a3, ← a4, ← b2]
theorem RunC.snoc {s : St} {c1 : List Bool} {V' : Wd} : ∀ {l : List St} {c : List Bool} {W V : Wd}, RunC l c W V → StepC s c1 V V' → RunC (l ++ [s]) (c ++ c1) W V'
  | [], _, _, _, ⟨rfl, rfl⟩, hs => ⟨c1, [], V', by simp, hs, rfl, rfl⟩
  | _ :: _, _, _, _, ⟨d1, d2, U, e, h1, h2⟩, hs => ⟨d1, d2 ++ c1, U, by rw [e, List.append_assoc], h1, h2.snoc hs⟩

/-- A run for every way of the coins. -/
theorem settle_all {k : Nat} : ∀ {cs cs' : List Bool} {u : Nat} {L T L' : List Lvl}, sh L = sh T → settle k cs u L = some (L', u + cs.length) → cs'.length = cs.length → ∃ T', settle k cs' u T = some (T', u + cs'.length) ∧ sh L' = sh T' := by
  intro cs
  induction cs with
  | nil =>
    intro cs' u L T L' h h1 hl
    have : cs' = [] := List.eq_nil_of_length_eq_zero (by simpa using hl)
    subst this
    cases ht : toThinL k L with
    | none =>
      rw [settle_done ht] at h1
      simp at h1
      refine ⟨T, ?_, by rw [← h1]; exact h⟩
      rw [settle_done (by rw [← sh_toThin h]; exact ht)]; simp
    | some r => rw [settle_short ht] at h1; simp at h1
  | cons c cs ih =>
    intro cs' u L T L' h h1 hl
    cases cs' with
    | nil => simp at hl
    | cons c' cs' =>
      cases ht : toThinL k L with
      | none => rw [settle_done ht] at h1; simp at h1
      | some r =>
        rw [settle_step ht] at h1
        have e1 : u + (c :: cs).length = u + 1 + cs.length := by simp; omega
        rw [e1] at h1
        obtain ⟨T', h2, h3⟩ := ih (cs' := cs') (sh_thin (c := c) (c' := c') h (toThinL_some ht).1) h1 (by simpa using hl)
        refine ⟨T', ?_, h3⟩
        rw [settle_step (by rw [← sh_toThin h]; exact ht), h2]
        congr 2
        simp; omega
theorem stepC_all {s : St} {c c' : List Bool} {A A' B : Wd} (h : StepC s c A A') (hal : Alike A B) (hA : MInv A) (hB : MInv B) (hl : c'.length = c.length) : ∃ B', StepC s c' B B' ∧ Alike A' B' := by
  have ha : pickN s.a 3 < 3 := pickN_lt _ (by omega)
  have hb : pickN s.b 3 < 3 := pickN_lt _ (by omega)
  have w1 := (sh_sums (hal.lv _ ha)).1
  have w2 := (sh_sums (hal.lv _ hb)).1
  have hlA : pickN s.a 3 < A.D.sks.length := by rw [hA.len]; exact ha
  have hlB : pickN s.a 3 < B.D.sks.length := by rw [hB.len]; exact ha
  rcases h with ⟨k1, h⟩ | ⟨k1, h⟩
  · have hk : mgK (A.D.sks.getD (pickN s.a 3) Hd.none) (A.D.sks.getD (pickN s.b 3) Hd.none) = mgK (B.D.sks.getD (pickN s.a 3) Hd.none) (B.D.sks.getD (pickN s.b 3) Hd.none) := by unfold mgK; rw [hal.k _ ha, hal.k _ hb]
    rcases h with ⟨f, rfl, rfl⟩ | ⟨f, L', hs, hcs, rfl⟩
    · have : c' = [] := List.eq_nil_of_length_eq_zero (by simpa using hl)
      subst this
      exact ⟨B, .inl ⟨k1, .inl ⟨by omega, rfl, rfl⟩⟩, hal⟩
    · rw [hk] at hs
      obtain ⟨T', h2, h3⟩ := settle_all (u := 0) (cs' := c') (sh_merge (hal.lv _ ha) (hal.lv _ hb)) (by rw [Nat.zero_add]; exact hs) hl
      rw [Nat.zero_add] at h2
      refine ⟨_, .inl ⟨k1, .inr ⟨by omega, T', h2, by omega, rfl⟩⟩, ⟨?_, fun t ht => ?_, fun t ht => ?_⟩⟩
      · show A.used + c.length = B.used + c'.length
        rw [hal.used, hl]
      · rw [joined_lv hlA, joined_lv hlB]
        by_cases e : t = pickN s.a 3
        · rw [if_pos e, if_pos e]; exact h3
        · rw [if_neg e, if_neg e]; exact hal.lv t ht
      · show ((A.D.sks.set _ _).getD t Hd.none).sk.k = ((B.D.sks.set _ _).getD t Hd.none).sk.k
        rw [sks_set hlA, sks_set hlB]
        by_cases e : t = pickN s.a 3
        · rw [if_pos e, if_pos e]; exact hk
        · rw [if_neg e, if_neg e]; exact hal.k t ht
  · rcases h with ⟨f, rfl, rfl⟩ | ⟨f, L', hs, hcs, rfl⟩
    · have : c' = [] := List.eq_nil_of_length_eq_zero (by simpa using hl)
      subst this
      exact ⟨B, .inr ⟨k1, .inl ⟨by omega, rfl, rfl⟩⟩, hal⟩
    · rw [hal.k _ ha] at hs
      obtain ⟨T', h2, h3⟩ := settle_all (u := 0) (cs' := c') (sh_with (x := s.b) (y := s.b) (f := 29) (w := weightN s.c) (j := 0) (hal.lv _ ha)) (by rw [Nat.zero_add]; exact hs) hl
      rw [Nat.zero_add] at h2
      refine ⟨_, .inr ⟨k1, .inr ⟨by omega, T', h2, by omega, rfl⟩⟩, ⟨?_, fun t ht => ?_, fun t ht => ?_⟩⟩
      · show A.used + c.length = B.used + c'.length
        rw [hal.used, hl]
      · rw [took_lv hlA, took_lv hlB]
        by_cases e : t = pickN s.a 3
        · rw [if_pos e, if_pos e]; exact h3
        · rw [if_neg e, if_neg e]; exact hal.lv t ht
      · show ((A.D.sks.set _ _).getD t Hd.none).sk.k = ((B.D.sks.set _ _).getD t Hd.none).sk.k
        rw [sks_set hlA, sks_set hlB]
        by_cases e : t = pickN s.a 3
        · rw [if_pos e, if_pos e]; exact hal.k _ ha
        · rw [if_neg e, if_neg e]; exact hal.k t ht
theorem Alike.rfl' (W : Wd) : Alike W W := ⟨rfl, fun _ _ => rfl, fun _ _ => rfl⟩
theorem runC_all : ∀ {l : List St} {c c' : List Bool} {A A' B : Wd}, RunC l c A A' → Alike A B → MInv A → MInv B → c'.length = c.length → ∃ B', RunC l c' B B' ∧ Alike A' B'
  | [], _, c', _, _, B, ⟨rfl, rfl⟩, hal, _, _, hl => by
    have : c' = [] := List.eq_nil_of_length_eq_zero (by simpa using hl)
    subst this
    exact ⟨B, ⟨rfl, rfl⟩, hal⟩
  | s :: l, _, c', _, _, _, ⟨c1, c2, A1, rfl, h1, h2⟩, hal, hA, hB, hl => by
    rw [List.length_append] at hl
    obtain ⟨B1, g1, g2⟩ := stepC_all (c' := c'.take c1.length) h1 hal hA hB (by simp; omega)
    obtain ⟨B2, g3, g4⟩ := runC_all (c' := c'.drop c1.length) h2 g2 (h1.inv hA) (g1.inv hB) (by simp; omega)
    exact ⟨B2, ⟨_, _, B1, (List.take_append_drop _ _).symm, g1, g3⟩, g4⟩
theorem runC_len : ∀ {l : List St} {c c' : List Bool} {A A' B B' : Wd}, RunC l c A A' → RunC l c' B B' → Alike A B → MInv A → MInv B → c.length = c'.length ∧ Alike A' B'
  | [], _, _, _, _, _, _, ⟨rfl, rfl⟩, ⟨rfl, rfl⟩, hal, _, _ => ⟨rfl, hal⟩
  | s :: l, _, _, A, _, B, _, ⟨c1, c2, A1, rfl, h1, h2⟩, ⟨d1, d2, B1, rfl, h3, h4⟩, hal, hA, hB => by
    have hlen : c1.length = d1.length := by
      obtain ⟨B1', g1, _⟩ := stepC_all (c' := c1) h1 hal hA hB rfl
      exact stepC_len g1 h3
    obtain ⟨B1', g1, g2⟩ := stepC_all (c' := d1) h1 hal hA hB hlen.symm
    have : B1' = B1 := stepC_det g1 h3
    subst this
    obtain ⟨e1, e2⟩ := runC_len h2 h4 g2 (h1.inv hA) (h3.inv hB)
    exact ⟨by simp [hlen, e1], e2⟩
theorem runC_det : ∀ {l : List St} {c : List Bool} {W A B : Wd}, RunC l c W A → RunC l c W B → A = B
  | [], _, _, _, _, ⟨_, rfl⟩, ⟨_, rfl⟩ => rfl
  | s :: l, _, W, _, _, ⟨c1, c2, A1, rfl, h1, h2⟩, ⟨d1, d2, B1, e, h3, h4⟩ => by
    obtain ⟨a1, a2⟩ := List.append_inj e (stepC_len h1 h3)
    subst a1 a2
    have := stepC_det h1 h3
    subst this
    exact runC_det h2 h4

/-- The bits of a number, the lowest first. -/
def bl : Nat → Nat → List Bool
  | _, 0 => []
  | t, n + 1 => (t % 2 == 1) :: bl (t / 2) n
theorem bl_length : ∀ (n t : Nat), (bl t n).length = n
  | 0, _ => rfl
  | n + 1, t => by simp [bl, bl_length n (t / 2)]
/-- Added up over the numbers below n. -/
def sumT (f : Nat → Int) : Nat → Int
  | 0 => 0
  | n + 1 => sumT f n + f n
theorem sumT_pair (f : Nat → Int) : ∀ n, sumT f (2 * n) = sumT (fun t => f (2 * t) + f (2 * t + 1)) n
  | 0 => rfl
  | n + 1 => by
    rw [show 2 * (n + 1) = 2 * n + 1 + 1 by omega, sumT, sumT, sumT_pair f n, sumT]; omega
theorem sumT_congr {f g : Nat → Int} : ∀ {n : Nat}, (∀ t, t < n → f t = g t) → sumT f n = sumT g n
  | 0, _ => rfl
  | n + 1, h => by rw [sumT, sumT, sumT_congr (fun t ht => h t (by omega)), h n (by omega)]
theorem sumT_add {f g : Nat → Int} : ∀ n, sumT (fun t => f t + g t) n = sumT f n + sumT g n
  | 0 => rfl
  | n + 1 => by rw [sumT, sumT, sumT, sumT_add n]; omega
theorem sumT_bits : ∀ {n : Nat} {f : List Bool → Int}, sumT (fun t => f (bl t n)) (2 ^ n) = sumC n f
  | 0, f => by simp [sumT, sumC, bl]
  | n + 1, f => by
    rw [Nat.pow_succ, Nat.mul_comm, sumT_pair, sumC, ← sumT_bits (n := n), ← sumT_bits (n := n), ← sumT_add]
    refine sumT_congr (fun t _ => ?_)
    have e1 : bl (2 * t) (n + 1) = false :: bl t n := by
      rw [bl, show 2 * t / 2 = t by omega, show 2 * t % 2 = 0 by omega]; rfl
    have e2 : bl (2 * t + 1) (n + 1) = true :: bl t n := by
      rw [bl, show (2 * t + 1) / 2 = t by omega, show (2 * t + 1) % 2 = 1 by omega]; rfl
    rw [e1, e2]

end Go.Proofs.Ytklicjbpjigfdaa

/- DERIVED. The walk of step where at most six coins may be used; of bits. -/
namespace Go.Proofs.Ytklicjbpjigfdaa
open Go.RowKit
attribute [local go_sem ↓] Go.wp_at_zero Go.wp_at_succ
variable {K : Nat → Prop} {w0 : World}

theorem Came.unhere {h : Hd} {s : Sd} (c : Came h s.here) : Came h s := ⟨⟨c.inok.ok, c.inok.n, c.inok.set, c.inok.xl, c.inok.wl⟩, c.k, c.len, c.sum, c.lvok, c.tn, c.ends, c.pos⟩
/-- The world of tree. -/
structure SixOk (W : Wd) : Prop where
  inv : MInv W.bare
  at_ : W.at_ ≤ 140737488355328
  coins : W.coins.size ≤ 140737488355328
  most : W.most = 6
  used : W.used ≤ 6
theorem SixOk.came {W : Wd} (h : SixOk W) (i : Nat) (hi : i < 3) : Came (W.D.sks.getD i Hd.none) (W.sd i) := (h.inv.came i hi).unhere

set_option maxHeartbeats 2000000 in
set_option maxRecDepth 100000 in
theorem step6_any (p d : Nat) (kd A B C : Int) (ps : Nat → Nat) (W : Wd) (w : World) (h : WdSt K w0 w p d 3 ps W) (hok : SixOk W) (hA : InRange A) (hB : InRange B) (hC : InRange C) :
    Calls Try.prog 14 #[.pointer (some ⟨p, 0, none⟩), .agg #[.int .i64 kd, .int .i64 A, .int .i64 B, .int .i64 C]] w fun e w' => (∃ W', e = .returned (.bool true) ∧ WdSt K w0 w' p d 3 ps W' ∧ StepR kd A B C W W' ∧ W'.used ≤ 6) ∨ (e = .returned (.bool false) ∧ ∃ W', WdSt K w0 w' p d 3 ps W' ∧ W'.short = true) := by
  have hst := h.below ((Below.refl w.heap.size w).alloc (Nat.le_refl _) (.cells #[.int .i64 kd, .int .i64 A, .int .i64 B, .int .i64 C] 29))
  have HP := hid (fun (w' : World) => pick_any A 3 w' hA.1 hA.2 (by omega) (by omega))
  have HP2 := hid (fun (w' : World) => pick_any B 3 w' hB.1 hB.2 (by omega) (by omega))
  have HW := hid (fun (w' : World) => weight_any C w' hC.1 hC.2)
  have hpl := pickN_lt A (n := 3) (by omega)
  have hpl2 := pickN_lt B (n := 3) (by omega)
  have hwb := weightN_bd C
  have htape : W.D.tape = [] := hok.inv.tape
  have hlen : W.D.sks.length = 3 := hok.inv.len
  have HSR : Hid (∀ W', StepR kd A B C W W' ↔ (kd = 1 ∧ MergeR (pickN A 3) (pickN B 3) W W') ∨ (kd ≠ 1 ∧ AddR (pickN A 3) B (weightN C) W W')) := fun W' => Iff.rfl
  have HMG := hid (fun (w' : World) (hb : WdSt K w0 w' p d 3 ps W) => wmerge6_any p d (pickN A 3) (pickN B 3) ps W w' hb hpl hpl2 hlen (hok.inv.uns _ hpl) (hok.came _ hpl) (hok.came _ hpl2) htape hok.at_ hok.coins hok.most hok.used)
  have HAD := hid (fun (w' : World) (hb : WdSt K w0 w' p d 3 ps W) => wadd6_any p d (pickN A 3) (weightN C) B ps W w' hb hpl hlen (hok.inv.uns _ hpl) (hok.came _ hpl).inok htape hwb.1 hwb.2 hok.at_ hok.coins hok.most hok.used)
  generalize pickN A 3 = a at *
  generalize pickN B 3 = b at *
  generalize weightN C = c at *
  have HST := hid hst
  clear h hst hok htape hlen
  by_cases hkd : kd = 1
  · subst hkd
    go_enter Try.func14, Try.ntmps14
    go_wp2_with fail
    refine (HP.out _).mono ?_
    rintro e w' ⟨rfl, hw⟩
    obtain rfl := hw.symm
    clear HP hw
    go_wp2_with fail
    refine (HP2.out _).mono ?_
    rintro e w' ⟨rfl, hw⟩
    obtain rfl := hw.symm
    clear HP2 hw
    go_wp2_with fail
    refine (HMG.out _ HST.out).mono ?_
    rintro e w1 (⟨W', rfl, h1, h2, h3⟩ | ⟨rfl, hsh⟩)
    · have HPO : Hid (∃ W', WdSt K w0 w1 p d 3 ps W' ∧ StepR 1 A B C W W' ∧ W'.used ≤ 6) := ⟨W', h1, (HSR.out W').2 (.inl (by first | exact ⟨rfl, h2⟩ | exact ⟨trivial, h2⟩)), h3⟩
      clear h1 h2 h3
      go_wp2_with fail
      go_ret
      obtain ⟨V, g1, g2, g3⟩ := HPO.out
      exact .inl ⟨V, rfl, g1, g2, g3⟩
    · have HSH := hid hsh
      clear hsh
      go_wp2_with fail
      go_ret
      exact .inr ⟨rfl, HSH.out⟩
  · have hkd' : (kd == 1) = false := by simpa using hkd
    have HKD := hid hkd
    clear hkd
    go_enter Try.func14, Try.ntmps14
    go_wp2_with (first | (go_at_call 26; refine (HP.out _).mono ?_; rintro e w' ⟨rfl, hw⟩; obtain rfl := hw.symm))
    go_region_with (first | (go_at_call 15; refine (HW.out _).mono ?_; rintro e w' ⟨rfl, hw⟩; obtain rfl := hw.symm) | (go_at_call 21; refine (HAD.out _ ?_).mono ?_; exact HST.out.drew; rintro e w1 hor; obtain ⟨be, hbe, hres⟩ : ∃ be : Bool, e = .returned (.bool be) ∧ (if be then (∃ W', WdSt K w0 w1 p d 3 ps W' ∧ AddR a B c W W' ∧ W'.used ≤ 6) else (∃ W', WdSt K w0 w1 p d 3 ps W' ∧ W'.short = true)) := by { rcases hor with ⟨W', rfl, h1, h2, h3⟩ | ⟨rfl, hsh⟩; exact ⟨true, rfl, W', h1, h2, h3⟩; exact ⟨false, rfl, hsh⟩ }; subst hbe; have HRES := hid hres; clear hor hres))
    all_goals
      go_wp2_with fail
      go_ret
      have hres := HRES.out
      cases be
      · exact .inr ⟨rfl, hres⟩
      · obtain ⟨V, g1, g2, g3⟩ := hres
        exact .inl ⟨V, rfl, g1, (HSR.out V).2 (.inr ⟨HKD.out, g2⟩), g3⟩

/-- The text of bits. -/
def IsBits (s : ByteArray) (l : List Bool) : Prop := s.data.toList = l.map fun b => if b then (49 : UInt8) else 48
theorem bl_snoc : ∀ (n t : Nat), bl t (n + 1) = bl t n ++ [(t / 2 ^ n) % 2 == 1]
  | 0, t => by simp [bl]
  | n + 1, t => by
    rw [bl, bl_snoc n (t / 2), bl, Nat.div_div_eq_div_mul, ← Nat.pow_succ']
    rfl

set_option maxHeartbeats 1000000 in
set_option maxRecDepth 100000 in
theorem bits_any (t n : Nat) (w : World) (hn : n ≤ 6) (ht : t ≤ 64) :
    Calls Try.prog 24 #[.int .i64 (t : Int), .int .i64 (n : Int)] w fun e w' => ∃ s, e = .returned (.string s) ∧ IsBits s (bl t n) ∧ Below w.heap.size w w' := by
  go_enter Try.func24, Try.ntmps24
  go_wp2_with fail
  go_loop [0, 5, 6] (fun st sb si => ∃ (i r : Nat) (s : ByteArray), i ≤ n ∧ r ≤ 64 ∧ st = .int .i64 (r : Int) ∧ sb = .string s ∧ si = .int .i64 (i : Int) ∧ Hid (IsBits s (bl t i)) ∧ Hid (r = t / 2 ^ i)) (fun _ _ si => n - (intOf si).toNat)
  case atStart => exact ⟨0, t, _, Nat.zero_le _, ht, rfl, rfl, rfl, rfl, by simp [Hid]⟩
  case round =>
    obtain ⟨i, r, s, hi, hr, rfl, rfl, rfl, Hs, Hr⟩ := hrel
    by_cases hlt : i < n
    · have HD : Hid (r / 2 = t / 2 ^ (i + 1)) := by rw [Hr.out, Nat.div_div_eq_div_mul, ← Nat.pow_succ]; exact rfl
      have HBS := hid (bl_snoc i t)
      rw [← Hr.out] at HBS
      have hsz : s.size = i := by
        have h9 := congrArg List.length Hs.out
        simp [bl_length] at h9
        exact h9
      have hss : s.size ≤ 6 := by omega
      clear hsz
      by_cases hb : r % 2 = 1
      · have hb' : ((r : Int) % 2 == 1) = true := by simp; omega
        have HB := hid hb
        clear hb
        go_wp2_with fail
        go_round
        case rel =>
          refine ⟨i + 1, r / 2, _, by omega, by omega, by go_num, rfl, by go_num, ?_, HD⟩
          have h9 := Hs.out
          unfold IsBits at h9
          unfold Hid IsBits
          rw [HBS.out, HB.out, List.map_append, ← h9]
          simp [ByteArray.data_append]
        case measure => simp [intOf]; omega
      · have hb' : ((r : Int) % 2 == 1) = false := by simp; omega
        have HB : Hid (r % 2 = 0) := by unfold Hid; omega
        clear hb
        go_wp2_with fail
        go_round
        case rel =>
          refine ⟨i + 1, r / 2, _, by omega, by omega, by go_num, rfl, by go_num, ?_, HD⟩
          have h9 := Hs.out
          unfold IsBits at h9
          unfold Hid IsBits
          rw [HBS.out, HB.out, List.map_append, ← h9]
          simp [ByteArray.data_append]
        case measure => simp [intOf]; omega
    · obtain rfl : i = n := by omega
      go_wp2_with fail
      go_ret
      exact ⟨s, rfl, Hs.out, Below.refl _ _⟩

/-- The coins of such a text are its bits. -/
theorem bits_coin {s : ByteArray} {l : List Bool} (h : IsBits s l) {a : Nat} (ha : a < l.length) : coinOf s a = l.getD a false := by
  have hsz : s.size = l.length := by
    have h9 := congrArg List.length h
    simpa using h9
  have hp : 0 < s.size := by omega
  unfold coinOf
  rw [dif_pos hp]
  have hm : a % s.size = a := Nat.mod_eq_of_lt (by omega)
  have hget : s[a % s.size]'(Nat.mod_lt _ hp) = if l.getD a false then (49 : UInt8) else 48 := by
    have h1 : s.data.toList[a]? = some (if l.getD a false then (49 : UInt8) else 48) := by
      rw [h]; simp [List.getD, ha]
    have h2 : s.data[a]? = some (if l.getD a false then (49 : UInt8) else 48) := by simpa using h1
    have h3 : s[a % s.size]'(Nat.mod_lt _ hp) = s.data[a]'(by have : s.data.size = s.size := rfl; omega) := by
      simp only [hm]; rfl
    rw [h3]
    exact (Array.getElem?_eq_some_iff.1 h2).2
  rw [hget]
  cases l.getD a false <;> rfl
theorem bits_draw {s : ByteArray} {l : List Bool} (h : IsBits s l) : ∀ j, j ≤ l.length → drw s 0 j = l.take j ∧ (j < l.length → ats s 0 j = j) := by
  have hsz : s.size = l.length := by
    have h9 := congrArg List.length h
    simpa using h9
  intro j
  induction j with
  | zero => intro _; exact ⟨by simp [drw], fun _ => rfl⟩
  | succ j ih =>
    intro hj
    obtain ⟨h1, h2⟩ := ih (by omega)
    have h3 := h2 (by omega)
    refine ⟨?_, fun hlt => ?_⟩
    · rw [drw, h1, h3, bits_coin h (by omega), List.take_succ_eq_append_getElem (by omega)]
      simp [List.getD, show j < l.length by omega]
    · rw [ats, h3]
      unfold atOf
      rw [if_neg (by omega), Nat.mod_eq_of_lt (by omega)]

end Go.Proofs.Ytklicjbpjigfdaa
