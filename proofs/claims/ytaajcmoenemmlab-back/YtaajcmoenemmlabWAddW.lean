/- DERIVED. The walk of the statement's own add: a number comes into sketch i, a coin more each time till the coins suffice. -/
import Derived.Test.YtaajcmoenemmlabMoreW
import Derived.Test.YtaajcmoenemmlabMs
namespace Go.Proofs.Ytaajcmoenemmlab
open Go.RowKit
variable {K : Nat → Prop} {w0 : World} {nw : Nat}

theorem wd_eta {W : Wd} (h : W.D.tape = []) : W = { W with D := { W.D with tape := [] }, used := W.used + ([] : List Bool).length, at_ := W.at_ } := by
  obtain ⟨⟨r, t, k⟩, sd, co, a, u, m, sh⟩ := W
  simp at h
  subst h
  rfl

/-- What the desk and a side must be for a number to come in. -/
structure InOk (h : Hd) (s : Sd) : Prop where
  ok : h.Ok
  uns : h.sealed = false
  n : s.n = wsum h.sk.lv
  set : nsum h.sk.lv ≤ capSum h.sk.k h.sk.lv.length
  xl : s.xs.length ≤ 1099511627
  wl : ∀ i, s.ws.getD i 0 ≤ 268435456

/-- The side behind it. -/
def Sd.took (s : Sd) (x : Int) (wt : Nat) : Sd := { s.put x wt with ones := s.ones && (wt == 1) }
/-- The world behind it. -/
def Wd.took (W : Wd) (i : Nat) (x : Int) (wt : Nat) (L' : List Lvl) (u a : Nat) : Wd :=
  { W with D := { W.D with tape := [], sks := W.D.sks.set i { sk := { k := (W.D.sks.getD i Hd.none).sk.k, lv := L', lo := addLo (W.D.sks.getD i Hd.none) x, hi := addHi (W.D.sks.getD i Hd.none) x }, sealed := (W.D.sks.getD i Hd.none).sealed } }, sd := fun j => if j = i then (W.sd i).took x wt else W.sd j, used := W.used + u, at_ := a }
/-- What add leaves. -/
def AddPost (K : Nat → Prop) (w0 : World) (p d nw i : Nat) (ps : Nat → Nat) (x : Int) (wt : Nat) (W : Wd) (w' : World) : Prop :=
  (268435456 < wsum (W.D.sks.getD i Hd.none).sk.lv + wt ∧ WdSt K w0 w' p d nw ps W) ∨
  (wsum (W.D.sks.getD i Hd.none).sk.lv + wt ≤ 268435456 ∧ ∃ cs L' a, DrawOk W cs a ∧ settle (W.D.sks.getD i Hd.none).sk.k cs 0 (addL (W.D.sks.getD i Hd.none) x wt) = some (L', cs.length) ∧ cs.length ≤ 29 ∧ WdSt K w0 w' p d nw ps (W.took i x wt L' cs.length a))

theorem sd_set4 {w : World} {p d m i : Nat} {own : Nat → Nat} {W : Wd} {ps : Nat → Nat} {vs : Value} {vx vw : Nat → Value} (h : WdAt own w p d m W ps vs vx vw) (hi : i < m) (h2K : ∀ b, K b → own b = 0 ∧ b < w0.heap.size) (hk : Keeps K w0 w) (o : Bool) : WdSt K w0 (w.setCell ⟨ps i, 4, none⟩ (.bool o)) p d m ps { W with sd := fun j => if j = i then { W.sd i with ones := o } else W.sd j } := by
  have hs := h.side i hi
  have hf : Fr (fun b => own b = 2 + i) w (w.setCell ⟨ps i, 4, none⟩ (.bool o)) := (Fr.refl _ w).set (fun _ => hs.gp) _
  have hkI : IntsKept w (w.setCell ⟨ps i, 4, none⟩ (.bool o)) := IntsKept.set hs.blk (by decide)
  refine h.sideStep hi (vx' := vx i) (vw' := vw i) ⟨?_, ⟨.inl hs.gp, by rw [setCell_size]; exact lt_of_blk' hs.blk⟩, hs.ix.kept hkI, hs.iw.kept hkI, fun b e => ⟨.inl (hs.gx b e), by rw [setCell_size]; exact ownsRow_lt hs.ix e⟩, fun b e => ⟨.inl (hs.gw b e), by rw [setCell_size]; exact ownsRow_lt hs.iw e⟩, hs.ne, hs.len⟩ hf h2K hk
  have := blk_set (i := 4) (.bool o) hs.blk
  simpa using this

set_option maxHeartbeats 2000000 in
set_option maxRecDepth 100000 in
theorem wadd_any (p d i wt : Nat) (x : Int) (ps : Nat → Nat) (W : Wd) (w : World) (h : WdSt K w0 w p d nw ps W) (hi : i < nw) (hl : W.D.sks.length = nw) (hok : InOk (W.D.sks.getD i Hd.none) (W.sd i)) (htp : W.D.tape = []) (hw1 : 1 ≤ wt) (hw2 : wt ≤ 268435456) (hat : W.at_ ≤ 140737488355328) (hcs : W.coins.size ≤ 140737488355328) (hmost : W.most = -1) (hus : W.used ≤ 1099511627776) :
    Calls Try.prog 31 #[.pointer (some ⟨p, 0, none⟩), .int .i64 (i : Int), .int .i64 x, .int .i64 (wt : Int)] w fun e w' => e = .returned (.bool true) ∧ AddPost K w0 p d nw i ps x wt W w' := by
  have HST := hid h
  obtain ⟨own, vs, vx, vw, h, h2K, hk⟩ := h
  obtain ⟨gs, cs0, evs, hptr⟩ := h.ptr hi
  obtain ⟨c0, c1, c2, c3, c4, c5, c6, cz⟩ := blk7 h.blk
  rw [evs] at c1
  have HOK := hid hok
  have HTP := hid htp
  have HL := hid hl
  have HMO := hid hmost
  have hb29 : nsum (addL (W.D.sks.getD i Hd.none) x wt) ≤ capSum (W.D.sks.getD i Hd.none).sk.k (addL (W.D.sks.getD i Hd.none) x wt).length + 29 := by
    have e1 := withFrom_nsum (x := x) (f := 29) (w := wt) (h := 0) (L := (W.D.sks.getD i Hd.none).sk.lv) (Nat.zero_le _)
    have e2 := withFrom_length_ge (x := x) (f := 29) (w := wt) (h := 0) (L := (W.D.sks.getD i Hd.none).sk.lv) (Nat.zero_le _)
    have e3 := capSum_mono (k := (W.D.sks.getD i Hd.none).sk.k) e2
    have := hok.set
    unfold addL
    omega
  have HB := hid hb29
  generalize hpi : ps i = pi at *
  clear h h2K hk evs hok htp hl hb29 hmost
  go_enter Try.func31, Try.ntmps31
  go_wp2_with fail
  go_loopw [10] (fun si wr => ∃ (cs : List Bool) (a : Nat), si = .int .i64 (cs.length : Int) ∧ Hid (DrawOk W cs a) ∧ cs.length ≤ 29 ∧ Hid (WdSt K w0 wr p d nw ps { W with D := { W.D with tape := cs }, used := W.used + cs.length, at_ := a }) ∧
      Hid ((cs = [] ∧ a = W.at_) ∨ (wsum (W.D.sks.getD i Hd.none).sk.lv + wt ≤ 268435456 ∧ ∃ cs' c, cs = cs' ++ [c] ∧ settle (W.D.sks.getD i Hd.none).sk.k cs' 0 (addL (W.D.sks.getD i Hd.none) x wt) = Option.none))) (fun si _ => 29 - (intOf si).toNat)
  case atStart =>
    refine ⟨[], W.at_, rfl, ⟨hat, rfl, rfl⟩, Nat.zero_le _, ?_, .inl ⟨rfl, rfl⟩⟩
    have := HST.out
    rw [wd_eta HTP.out] at this
    exact this
  case round =>
    obtain ⟨cs, a, rfl, ha, hc29, Hst, Hcs⟩ := hrel
    obtain ⟨own1, vs1, vx1, vw1, h1, h2K1, hk1⟩ := Hst.out
    obtain ⟨d0, d1, d2, d3, d4, d5, d6, dz⟩ := blk7 h1.blk
    have hA := hid (add_any (F := fun b => own1 b = 1) d i wt x { W.D with tape := cs } wr h1.desk (by rw [HL.out]; exact hi) HOK.out.ok HOK.out.uns hw1 hw2 (by show cs.length ≤ 1024; omega))
    have H1 := hid h1
    have H2 := hid h2K1
    have HK := hid hk1
    clear h1 h2K1 hk1 c0 c1 c2 c3 c4 c5 c6 cz hptr
    by_cases hfull : wsum (W.D.sks.getD i Hd.none).sk.lv + wt ≤ 268435456
    · have hfi : ¬ 268435456 - ((W.sd i).n : Int) < (wt : Int) := by rw [HOK.out.n]; omega
      have hnb : (W.sd i).n ≤ 268435456 := by rw [HOK.out.n]; exact HOK.out.ok.cnt
      have HFU := hid hfull
      go_wp2_with fail
      refine hA.out.mono ?_
      intro e w1 hans
      rw [if_pos hfull] at hans
      clear hfull
      cases hset : settle (W.D.sks.getD i Hd.none).sk.k cs 0 (addL (W.D.sks.getD i Hd.none) x wt) with
      | none =>
        have hans' : e = .returned (.int .i64 7) ∧ Below wr.heap.size wr w1 := by
          have h9 := hans
          rw [hset] at h9
          exact h9
        obtain ⟨rfl, hb1⟩ := hans'
        have HSET := hid hset
        have hb9 := settle_none_bound hset
        have hcn : cs.length < 29 := by have := HB.out; omega
        have hst1 := Hst.out.below hb1
        have HM := hid (more_any p d nw ps _ w1 hst1 ha.out.1 hcs HMO.out (by show W.used + cs.length ≤ _; omega) (by show cs.length < 1024; omega))
        clear hans hset hb1 hst1
        go_wp2_with fail
        refine HM.out.mono ?_
        rintro e w2 ⟨c, a2, rfl, ha2, hst2⟩
        have HA2 := hid ha2
        clear ha2
        have HS2 := hid hst2
        clear hst2
        go_wp2_with fail
        go_roundw
        case rel =>
          refine ⟨cs ++ [c], a2, by simp, ha.out.snoc HA2.out, by simp; omega, ?_, .inr ⟨HFU.out, cs, c, rfl, HSET.out⟩⟩
          have := HS2.out
          simpa [Hid, Nat.add_assoc] using this
        case measure => simp [intOf]; omega
      | some q =>
        obtain ⟨L', u⟩ := q
        have hans' : e = .returned (.int .i64 0) ∧ DeskStep (fun b => own1 b = 1) wr w1 d { W.D with tape := cs.drop u, sks := W.D.sks.set i { sk := { k := (W.D.sks.getD i Hd.none).sk.k, lv := L', lo := addLo (W.D.sks.getD i Hd.none) x, hi := addHi (W.D.sks.getD i Hd.none) x }, sealed := (W.D.sks.getD i Hd.none).sealed } } := by
          have h9 := hans
          rw [hset] at h9
          exact h9
        obtain ⟨rfl, hst1⟩ := hans'
        have hu : u = cs.length := by
          rcases Hcs.out with ⟨e, _⟩ | ⟨_, cs', c, e, e2⟩
          · subst e; have := settle_used hset; simp at this; simpa using this
          · rw [e] at hset
            have := settle_last e2 hset
            rw [e]; simp; omega
        subst hu
        rw [List.drop_length] at hst1
        have hw1 := H1.out.deskStep H2.out HK.out hst1
        have HSET := hid hset
        have HCL := hid (clean_any p d nw ps _ w1 hw1)
        obtain ⟨own2, vs2, vx2, vw2, h2, h2K2, hk2⟩ := hw1
        have hsd := h2.side i hi
        rw [hpi] at hsd
        obtain ⟨s0, s1, s2, s3, s4, s5, sz⟩ := blk6 hsd.blk
        have s2' : w1.cell? ⟨pi, 2, none⟩ = some (.int .i64 ((W.sd i).n : Int)) := s2
        have HPU := hid (put_any pi (W.sd i) (vx2 i) (vw2 i) x wt w1 hsd (by have := HOK.out.xl; omega) (by omega) (fun j => by have := HOK.out.wl j; omega) (fun b hb => h2.lt b (by omega)))
        have HH2 := hid h2
        have H22 := hid h2K2
        have HK2 := hid hk2
        clear hans hset hst1 h2 h2K2 hk2 hsd s0 s1 s2 s3 s4 s5 sz
        go_wp2_with (first | (go_at_call 52; refine HCL.out.mono ?_; rintro e w' ⟨rfl, hw⟩; obtain rfl := hw.symm))
        refine HPU.out.mono ?_
        rintro e w3 ⟨rfl, vx3, vw3, hs3, hf3⟩
        rw [← hpi] at hs3
        have hst3 := HH2.out.sideStep hi hs3 hf3 H22.out HK2.out
        obtain ⟨own4, vs4, vx4, vw4, h4, h2K4, hk4⟩ := hst3
        have hsd4 := (h4.side i hi).blk
        rw [hpi] at hsd4
        obtain ⟨r0, r1, r2, r3, r4, r5, rz⟩ := blk6 hsd4
        have r4' : w3.cell? ⟨pi, 4, none⟩ = some (.bool (W.sd i).ones) := by simpa [Sd.put] using r4
        have HFI := hid (fun o => sd_set4 (K := K) (w0 := w0) h4 hi h2K4 hk4 o)
        have HWE : Hid (((wt : Int) == 1) = (wt == 1)) := by
          by_cases e : wt = 1
          · subst e; rfl
          · have e1 : ((wt : Int) == 1) = false := by simp; omega
            have e2 : (wt == 1) = false := by simpa using e
            unfold Hid; rw [e1, e2]
        clear hs3 hf3 h4 h2K4 hk4 hsd4 r0 r1 r2 r3 r4 r5 HPU HH2
        generalize hones : (W.sd i).ones = ones at *
        have HON := hid hones
        clear hones
        cases ones
        · go_wp2_with fail
          go_ret
          refine ⟨rfl, .inr ⟨HFU.out, cs, L', a, ha.out, HSET.out, hc29, ?_⟩⟩
          have hfin := HFI.out false
          rw [hpi] at hfin
          refine Eq.mp (congrArg (WdSt K w0 _ p d nw ps) ?_) hfin
          simp only [Wd.took, Wd.mk.injEq, and_true, true_and]
          funext j
          by_cases hj : j = i
          · subst hj; simp [Sd.took, HON.out]
          · simp [hj]
        · go_wp2_with fail
          go_ret
          refine ⟨rfl, .inr ⟨HFU.out, cs, L', a, ha.out, HSET.out, hc29, ?_⟩⟩
          have hfin := HFI.out ((wt : Int) == 1)
          rw [hpi] at hfin
          refine Eq.mp (congrArg (WdSt K w0 _ p d nw ps) ?_) hfin
          rw [HWE.out]
          simp only [Wd.took, Wd.mk.injEq, and_true, true_and]
          funext j
          by_cases hj : j = i
          · subst hj; simp [Sd.took, HON.out]
          · simp [hj]
    · go_wp2_with fail
      refine hA.out.mono ?_
      intro e w1 hans
      rw [if_neg hfull] at hans
      obtain ⟨rfl, hb1⟩ := hans
      have hcs0 : cs = [] ∧ a = W.at_ := by
        rcases Hcs.out with e | e
        · exact e
        · exact absurd e.1 hfull
      obtain ⟨hc0, ha0⟩ := hcs0
      subst hc0
      have HA0 := hid ha0
      clear ha0
      have hst1 := Hst.out.below hb1
      have HCL := hid (clean_any p d nw ps _ w1 hst1)
      obtain ⟨own2, vs2, vx2, vw2, h2, _⟩ := hst1
      obtain ⟨s0, s1, s2, s3, s4, s5, sz⟩ := blk6 (h2.side i hi).blk
      rw [hpi] at s2
      have HS1 := hid (Hst.out.below hb1)
      have hfi : 268435456 - ((W.sd i).n : Int) < (wt : Int) := by rw [HOK.out.n]; omega
      have HFU := hid hfull
      have s2' : w1.cell? ⟨pi, 2, none⟩ = some (.int .i64 ((W.sd i).n : Int)) := s2
      have hnb : (W.sd i).n ≤ 268435456 := by rw [HOK.out.n]; exact HOK.out.ok.cnt
      clear hb1 h2 s0 s1 s2 s3 s4 s5 sz hfull
      generalize (W.sd i).n = sn at *
      go_wp2_with (first | (go_at_call 52; refine HCL.out.mono ?_; rintro e w' ⟨rfl, hw⟩; obtain rfl := hw.symm))
      go_ret
      refine ⟨rfl, .inl ⟨by have := HFU.out; omega, ?_⟩⟩
      have := HS1.out
      rw [HA0.out] at this
      rw [wd_eta HTP.out]
      exact this

end Go.Proofs.Ytaajcmoenemmlab
