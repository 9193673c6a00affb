/- DERIVED. The walk of the statement's own add: a number comes into sketch i, a coin more each time till the coins suffice. -/
import Derived.Test.YtklicjbpjigfdabNa
import Derived.Test.YtklicjbpjigfdabMs
import Derived.Deep.RegionWith
import Derived.Deep.DrawnRows
namespace Go.Proofs.Ytklicjbpjigfdab
open Go.RowKit
variable {K : Nat → Prop} {w0 : World} {nw : Nat}

theorem wd_eta {W : Wd} (h : W.D.tape = []) : W = { W with D := { W.D with tape := [] }, used := W.used + ([] : List Bool).length, at_ := W.at_ } := by
  obtain ⟨⟨r, t, k⟩, sd, co, a, u, m, sh⟩ := W
  simp at h
  subst h
  rfl

/-- What the desk and a side must be for a number to come in. -/
structure InOk (h : Hd) (s : Sd) : Prop where
  ok : h.Ok
  n : s.n = wsum h.sk.lv
  set : nsum h.sk.lv ≤ capSum h.sk.k h.sk.lv.length
  xl : s.xs.length ≤ 1099511627
  wl : ∀ i, s.ws.getD i 0 ≤ 268435456

/-- The side behind it. -/
def Sd.took (s : Sd) (x : Int) (wt : Nat) : Sd := { s.put x wt with ones := s.ones && (wt == 1) }
/-- The world behind it. -/
def Wd.took (W : Wd) (i : Nat) (x : Int) (wt : Nat) (L' : List Lvl) (u a : Nat) : Wd :=
  { W with D := { W.D with tape := [], sks := W.D.sks.set i { sk := { k := (W.D.sks.getD i Hd.none).sk.k, lv := L', lo := addLo (W.D.sks.getD i Hd.none) x, hi := addHi (W.D.sks.getD i Hd.none) x }, sealed := (W.D.sks.getD i Hd.none).sealed, taken := (W.D.sks.getD i Hd.none).taken } }, sd := fun j => if j = i then (W.sd i).took x wt else W.sd j, used := W.used + u, at_ := a }
/-- What add leaves. -/
def AddPost (K : Nat → Prop) (w0 : World) (p d nw i : Nat) (ps : Nat → Nat) (x : Int) (wt : Nat) (W : Wd) (w' : World) : Prop :=
  (268435456 < wsum (W.D.sks.getD i Hd.none).sk.lv + wt ∧ WdSt K w0 w' p d nw ps W) ∨
  (wsum (W.D.sks.getD i Hd.none).sk.lv + wt ≤ 268435456 ∧ ∃ cs L' a, DrawOk W cs a ∧ settle (W.D.sks.getD i Hd.none).sk.k cs 0 (addL (W.D.sks.getD i Hd.none) x wt) = some (L', cs.length) ∧ cs.length ≤ 29 ∧ WdSt K w0 w' p d nw ps (W.took i x wt L' cs.length a))

theorem sd_set4 {w : World} {p d m i : Nat} {own : Nat → Nat} {W : Wd} {ps : Nat → Nat} {vs : Value} {vx vw : Nat → Value} (h : WdAt own w p d m W ps vs vx vw) (hi : i < m) (h2K : ∀ b, K b → own b = 0 ∧ b < w0.heap.size) (hk : Keeps K w0 w) (o : Bool) : WdSt K w0 (w.setCell ⟨ps i, 4, none⟩ (.bool o)) p d m ps { W with sd := fun j => if j = i then { W.sd i with ones := o } else W.sd j } := by
  have hs := h.side i hi
  have hf : Fr (fun b => own b = 2 + i) w (w.setCell ⟨ps i, 4, none⟩ (.bool o)) := (Fr.refl _ w).set (fun _ => hs.gp) _
  have hkI : IntsKept w (w.setCell ⟨ps i, 4, none⟩ (.bool o)) := IntsKept.set hs.blk (by decide)
  refine h.sideStep hi (vx' := vx i) (vw' := vw i) ⟨?_, ⟨.inl hs.gp, by rw [setCell_size]; exact lt_of_blk' hs.blk⟩, hs.ix.kept hkI, hs.iw.kept hkI, fun b e => ⟨.inl (hs.gx b e), by rw [setCell_size]; exact ownsRow_lt hs.ix e⟩, fun b e => ⟨.inl (hs.gw b e), by rw [setCell_size]; exact ownsRow_lt hs.iw e⟩, hs.ne, hs.len⟩ hf h2K hk
  have := blk_set (i := 4) (.bool o) hs.blk
  simpa using this

set_option maxHeartbeats 2000000 in
set_option maxRecDepth 100000 in
theorem wadd_any (p d i wt : Nat) (x : Int) (ps : Nat → Nat) (W : Wd) (w : World) (h : WdSt K w0 w p d nw ps W) (hi : i < nw) (hl : W.D.sks.length = nw) (hun : (W.D.sks.getD i Hd.none).sealed = false) (hok : InOk (W.D.sks.getD i Hd.none) (W.sd i)) (htp : W.D.tape = []) (hw1 : 1 ≤ wt) (hw2 : wt ≤ 268435456) (hat : W.at_ ≤ 140737488355328) (hcs : W.coins.size ≤ 140737488355328) (hmost : W.most = -1) (hus : W.used ≤ 1099511627776) :
    Calls Try.prog 41 #[.pointer (some ⟨p, 0, none⟩), .int .i64 (i : Int), .int .i64 x, .int .i64 (wt : Int)] w fun e w' => e = .returned (.bool true) ∧ AddPost K w0 p d nw i ps x wt W w' := by
  have HST := hid h
  obtain ⟨own, vs, vx, vw, h, h2K, hk⟩ := h
  obtain ⟨gs, cs0, evs, hptr⟩ := h.ptr hi
  obtain ⟨c0, c1, c2, c3, c4, c5, c6, cz⟩ := blk7 h.blk
  rw [evs] at c1
  have HOK := hid hok
  have HUN := hid hun
  clear hun
  have HTP := hid htp
  have HL := hid hl
  have HMO := hid hmost
  have hb29 : nsum (addL (W.D.sks.getD i Hd.none) x wt) ≤ capSum (W.D.sks.getD i Hd.none).sk.k (addL (W.D.sks.getD i Hd.none) x wt).length + 29 := by
    have e1 := withFrom_nsum (x := x) (f := 29) (w := wt) (h := 0) (L := (W.D.sks.getD i Hd.none).sk.lv) (Nat.zero_le _)
    have e2 := withFrom_length_ge (x := x) (f := 29) (w := wt) (h := 0) (L := (W.D.sks.getD i Hd.none).sk.lv) (Nat.zero_le _)
    have e3 := capSum_mono (k := (W.D.sks.getD i Hd.none).sk.k) e2
    have := hok.set
    unfold addL
    omega
  have HB := hid hb29
  generalize hpi : ps i = pi at *
  clear h h2K hk evs hok htp hl hb29 hmost
  go_enter Try.func41, Try.ntmps41
  go_wp2_with fail
  go_loopw [10] (fun si wr => ∃ (cs : List Bool) (a : Nat), si = .int .i64 (cs.length : Int) ∧ Hid (DrawOk W cs a) ∧ cs.length ≤ 29 ∧ Hid (WdSt K w0 wr p d nw ps { W with D := { W.D with tape := cs }, used := W.used + cs.length, at_ := a }) ∧
      Hid ((cs = [] ∧ a = W.at_) ∨ (wsum (W.D.sks.getD i Hd.none).sk.lv + wt ≤ 268435456 ∧ ∃ cs' c, cs = cs' ++ [c] ∧ settle (W.D.sks.getD i Hd.none).sk.k cs' 0 (addL (W.D.sks.getD i Hd.none) x wt) = Option.none))) (fun si _ => 29 - (intOf si).toNat)
  case atStart =>
    refine ⟨[], W.at_, rfl, ⟨hat, rfl, rfl⟩, Nat.zero_le _, ?_, .inl ⟨rfl, rfl⟩⟩
    have := HST.out
    rw [wd_eta HTP.out] at this
    exact this
  case round =>
    obtain ⟨cs, a, rfl, ha, hc29, Hst, Hcs⟩ := hrel
    obtain ⟨own1, vs1, vx1, vw1, h1, h2K1, hk1⟩ := Hst.out
    obtain ⟨d0, d1, d2, d3, d4, d5, d6, dz⟩ := blk7 h1.blk
    have hA := hid (add_any (F := fun b => own1 b = 1) d i wt x { W.D with tape := cs } wr h1.desk (by rw [HL.out]; exact hi) HOK.out.ok HUN.out hw1 hw2 (by show cs.length ≤ 1024; omega))
    have H1 := hid h1
    have H2 := hid h2K1
    have HK := hid hk1
    clear h1 h2K1 hk1 c0 c1 c2 c3 c4 c5 c6 cz hptr
    by_cases hfull : wsum (W.D.sks.getD i Hd.none).sk.lv + wt ≤ 268435456
    · have hfi : ¬ 268435456 - ((W.sd i).n : Int) < (wt : Int) := by rw [HOK.out.n]; omega
      have hnb : (W.sd i).n ≤ 268435456 := by rw [HOK.out.n]; exact HOK.out.ok.cnt
      have HFU := hid hfull
      go_wp2_with fail
      refine hA.out.mono ?_
      intro e w1 hans
      rw [if_pos hfull] at hans
      clear hfull
      cases hset : settle (W.D.sks.getD i Hd.none).sk.k cs 0 (addL (W.D.sks.getD i Hd.none) x wt) with
      | none =>
        have hans' : e = .returned (.int .i64 7) ∧ Below wr.heap.size wr w1 := by
          have h9 := hans
          rw [hset] at h9
          exact h9
        obtain ⟨rfl, hb1⟩ := hans'
        have HSET := hid hset
        have hb9 := settle_none_bound hset
        have hcn : cs.length < 29 := by have := HB.out; omega
        have hst1 := Hst.out.below hb1
        have HM := hid (more_any p d nw ps _ w1 hst1 ha.out.1 hcs HMO.out (by show W.used + cs.length ≤ _; omega) (by show cs.length < 1024; omega))
        clear hans hset hb1 hst1
        go_wp2_with fail
        refine HM.out.mono ?_
        rintro e w2 ⟨c, a2, rfl, ha2, hst2⟩
        have HA2 := hid ha2
        clear ha2
        have HS2 := hid hst2
        clear hst2
        go_wp2_with fail
        go_roundw
        case rel =>
          refine ⟨cs ++ [c], a2, by simp, ha.out.snoc HA2.out, by simp; omega, ?_, .inr ⟨HFU.out, cs, c, rfl, HSET.out⟩⟩
          have := HS2.out
          simpa [Hid, Nat.add_assoc] using this
        case measure => simp [intOf]; omega
      | some q =>
        obtain ⟨L', u⟩ := q
        have hans' : e = .returned (.int .i64 0) ∧ DeskStep (fun b => own1 b = 1) wr w1 d { W.D with tape := cs.drop u, sks := W.D.sks.set i { sk := { k := (W.D.sks.getD i Hd.none).sk.k, lv := L', lo := addLo (W.D.sks.getD i Hd.none) x, hi := addHi (W.D.sks.getD i Hd.none) x }, sealed := (W.D.sks.getD i Hd.none).sealed, taken := (W.D.sks.getD i Hd.none).taken } } := by
          have h9 := hans
          rw [hset] at h9
          exact h9
        obtain ⟨rfl, hst1⟩ := hans'
        have hu : u = cs.length := by
          rcases Hcs.out with ⟨e, _⟩ | ⟨_, cs', c, e, e2⟩
          · subst e; have := settle_used hset; simp at this; simpa using this
          · rw [e] at hset
            have := settle_last e2 hset
            rw [e]; simp; omega
        subst hu
        rw [List.drop_length] at hst1
        have hw1 := H1.out.deskStep H2.out HK.out hst1
        have HSET := hid hset
        have HCL := hid (clean_any p d nw ps _ w1 hw1)
        obtain ⟨own2, vs2, vx2, vw2, h2, h2K2, hk2⟩ := hw1
        have hsd := h2.side i hi
        rw [hpi] at hsd
        obtain ⟨s0, s1, s2, s3, s4, s5, sz⟩ := blk6 hsd.blk
        have s2' : w1.cell? ⟨pi, 2, none⟩ = some (.int .i64 ((W.sd i).n : Int)) := s2
        have HPU := hid (put_any pi (W.sd i) (vx2 i) (vw2 i) x wt w1 hsd (by have := HOK.out.xl; omega) (by omega) (fun j => by have := HOK.out.wl j; omega) (fun b hb => h2.lt b (by omega)))
        have HH2 := hid h2
        have H22 := hid h2K2
        have HK2 := hid hk2
        clear hans hset hst1 h2 h2K2 hk2 hsd s0 s1 s2 s3 s4 s5 sz
        go_wp2_with (first | (go_at_call 72; refine HCL.out.mono ?_; rintro e w' ⟨rfl, hw⟩; obtain rfl := hw.symm))
        refine HPU.out.mono ?_
        rintro e w3 ⟨rfl, vx3, vw3, hs3, hf3⟩
        rw [← hpi] at hs3
        have hst3 := HH2.out.sideStep hi hs3 hf3 H22.out HK2.out
        obtain ⟨own4, vs4, vx4, vw4, h4, h2K4, hk4⟩ := hst3
        have hsd4 := (h4.side i hi).blk
        rw [hpi] at hsd4
        obtain ⟨r0, r1, r2, r3, r4, r5, rz⟩ := blk6 hsd4
        have r4' : w3.cell? ⟨pi, 4, none⟩ = some (.bool (W.sd i).ones) := by simpa [Sd.put] using r4
        have HFI := hid (fun o => sd_set4 (K := K) (w0 := w0) h4 hi h2K4 hk4 o)
        have HWE : Hid (((wt : Int) == 1) = (wt == 1)) := by
          by_cases e : wt = 1
          · subst e; rfl
          · have e1 : ((wt : Int) == 1) = false := by simp; omega
            have e2 : (wt == 1) = false := by simpa using e
            unfold Hid; rw [e1, e2]
        clear hs3 hf3 h4 h2K4 hk4 hsd4 r0 r1 r2 r3 r4 r5 HPU HH2
        generalize hones : (W.sd i).ones = ones at *
        have HON := hid hones
        clear hones
        cases ones
        · go_wp2_with fail
          go_ret
          refine ⟨rfl, .inr ⟨HFU.out, cs, L', a, ha.out, HSET.out, hc29, ?_⟩⟩
          have hfin := HFI.out false
          rw [hpi] at hfin
          refine Eq.mp (congrArg (WdSt K w0 _ p d nw ps) ?_) hfin
          simp only [Wd.took, Wd.mk.injEq, and_true, true_and]
          funext j
          by_cases hj : j = i
          · subst hj; simp [Sd.took, HON.out]
          · simp [hj]
        · go_wp2_with fail
          go_ret
          refine ⟨rfl, .inr ⟨HFU.out, cs, L', a, ha.out, HSET.out, hc29, ?_⟩⟩
          have hfin := HFI.out ((wt : Int) == 1)
          rw [hpi] at hfin
          refine Eq.mp (congrArg (WdSt K w0 _ p d nw ps) ?_) hfin
          rw [HWE.out]
          simp only [Wd.took, Wd.mk.injEq, and_true, true_and]
          funext j
          by_cases hj : j = i
          · subst hj; simp [Sd.took, HON.out]
          · simp [hj]
    · go_wp2_with fail
      refine hA.out.mono ?_
      intro e w1 hans
      rw [if_neg hfull] at hans
      obtain ⟨rfl, hb1⟩ := hans
      have hcs0 : cs = [] ∧ a = W.at_ := by
        rcases Hcs.out with e | e
        · exact e
        · exact absurd e.1 hfull
      obtain ⟨hc0, ha0⟩ := hcs0
      subst hc0
      have HA0 := hid ha0
      clear ha0
      have hst1 := Hst.out.below hb1
      have HCL := hid (clean_any p d nw ps _ w1 hst1)
      obtain ⟨own2, vs2, vx2, vw2, h2, _⟩ := hst1
      obtain ⟨s0, s1, s2, s3, s4, s5, sz⟩ := blk6 (h2.side i hi).blk
      rw [hpi] at s2
      have HS1 := hid (Hst.out.below hb1)
      have hfi : 268435456 - ((W.sd i).n : Int) < (wt : Int) := by rw [HOK.out.n]; omega
      have HFU := hid hfull
      have s2' : w1.cell? ⟨pi, 2, none⟩ = some (.int .i64 ((W.sd i).n : Int)) := s2
      have hnb : (W.sd i).n ≤ 268435456 := by rw [HOK.out.n]; exact HOK.out.ok.cnt
      clear hb1 h2 s0 s1 s2 s3 s4 s5 sz hfull
      generalize (W.sd i).n = sn at *
      go_wp2_with (first | (go_at_call 72; refine HCL.out.mono ?_; rintro e w' ⟨rfl, hw⟩; obtain rfl := hw.symm))
      go_ret
      refine ⟨rfl, .inl ⟨by have := HFU.out; omega, ?_⟩⟩
      have := HS1.out
      rw [HA0.out] at this
      rw [wd_eta HTP.out]
      exact this

end Go.Proofs.Ytklicjbpjigfdab

/- DERIVED. The walk of step: a step that lets a number come in. -/
namespace Go.Proofs.Ytklicjbpjigfdab
open Go.RowKit
attribute [local go_sem ↓] Go.wp_at_zero Go.wp_at_succ
variable {K : Nat → Prop} {w0 : World}

/-- What the world must be for a step. -/
structure WdOk (W : Wd) : Prop where
  len : W.D.sks.length = 3
  tape : W.D.tape = []
  at_ : W.at_ ≤ 140737488355328
  coins : W.coins.size ≤ 140737488355328
  most : W.most = -1
  used : W.used ≤ 1099511627776
  ins : ∀ i, i < 3 → InOk (W.D.sks.getD i Hd.none) (W.sd i)
  uns : ∀ i, i < 3 → (W.D.sks.getD i Hd.none).sealed = false

def InRange (c : Int) : Prop := -9223372036854775808 ≤ c ∧ c ≤ 9223372036854775807

theorem weightN_bd (c : Int) : 1 ≤ weightN c ∧ weightN c ≤ 268435456 := by
  have := pickN_lt c (n := 268435456) (by omega)
  unfold weightN; omega

set_option maxHeartbeats 2000000 in
set_option maxRecDepth 100000 in
theorem step_any (p d : Nat) (kd A B C : Int) (ps : Nat → Nat) (W : Wd) (w : World) (h : WdSt K w0 w p d 3 ps W) (hok : WdOk W) (hkd : kd ≠ 1) (hA : InRange A) (hC : InRange C) :
    Calls Try.prog 31 #[.pointer (some ⟨p, 0, none⟩), .agg #[.int .i64 kd, .int .i64 A, .int .i64 B, .int .i64 C]] w fun e w' => e = .returned (.bool true) ∧ AddPost K w0 p d 3 (pickN A 3) ps B (weightN C) W w' := by
  have hkd' : (kd == 1) = false := by simpa using hkd
  have hst := h.below ((Below.refl w.heap.size w).alloc (Nat.le_refl _) (.cells #[.int .i64 kd, .int .i64 A, .int .i64 B, .int .i64 C] 39))
  have HP := hid (fun (w' : World) => pick_any A 3 w' hA.1 hA.2 (by omega) (by omega))
  have HW := hid (fun (w' : World) => weight_any C w' hC.1 hC.2)
  have hpl := pickN_lt A (n := 3) (by omega)
  have hwb := weightN_bd C
  have HAD := hid (fun (w' : World) (hb : WdSt K w0 w' p d 3 ps W) => wadd_any p d (pickN A 3) (weightN C) B ps W w' hb hpl hok.len (hok.uns _ hpl) (hok.ins _ hpl) hok.tape hwb.1 hwb.2 hok.at_ hok.coins hok.most hok.used)
  generalize pickN A 3 = a at *
  generalize weightN C = c at *
  have HST := hid hst
  clear h hst hok hkd
  go_enter Try.func31, Try.ntmps31
  go_wp2_with (first | (go_at_call 9; refine (HP.out _).mono ?_; rintro e w' ⟨rfl, hw⟩; obtain rfl := hw.symm))
  go_region_with (first | (go_at_call 40; refine (HW.out _).mono ?_; rintro e w' ⟨rfl, hw⟩; obtain rfl := hw.symm) | (go_at_call 41; refine (HAD.out _ ?_).mono ?_; exact HST.out.drew; rintro e w1 ⟨rfl, hpost⟩))
  all_goals
    have HPO := hid hpost
    clear hpost
    go_wp2_with fail
    go_ret
    exact ⟨rfl, HPO.out⟩

end Go.Proofs.Ytklicjbpjigfdab

/- DERIVED. The walks of open and begin: a desk with three sketches on it. -/
namespace Go.Proofs.Ytklicjbpjigfdab
open Go.RowKit
variable {K : Nat → Prop} {w0 : World}

/-- A side into which nothing came. -/
def Sd.begun (k : Nat) : Sd := { xs := [], ws := [], n := 0, k := k, ones := true, gone := false }
def Wd.opened (W : Wd) (m k : Nat) : Wd := { W with D := { W.D with sks := W.D.sks ++ [Hd.begun k] }, sd := fun j => if j = m then Sd.begun k else W.sd j }
def psOpen (ps : Nat → Nat) (m s : Nat) : Nat → Nat := fun j => if j = m then s else ps j

theorem ptrs_open (ps : Nat → Nat) (m s : Nat) : ptrs (psOpen ps m s) (m + 1) = ptrs ps m ++ [.pointer (some ⟨s, 0, none⟩)] := by
  unfold ptrs
  rw [List.range_succ, List.map_append]
  congr 1
  · apply List.map_congr_left
    intro j hj
    have : j < m := by simpa using hj
    simp [psOpen, show j ≠ m by omega]
  · simp [psOpen]

theorem wd_set1 {w : World} {p d : Nat} {vs V : Value} {W : Wd} (h : w.heap[p]? = some (wdBlk d vs W)) : (w.setCell ⟨p, 1, none⟩ V).heap[p]? = some (wdBlk d V W) := by
  have := blk_set (i := 1) V h
  simpa using this

/-- One side more. -/
theorem WdAt.push {own : Nat → Nat} {w wx w2 : World} {p d m k g2 cap2 : Nat} {W : Wd} {ps : Nat → Nat} {vs : Value} {vx vw : Nat → Value} (h : WdAt own w p d m W ps vs vx vw) (hm : m < 4) (h2K : ∀ b, K b → own b = 0 ∧ b < w0.heap.size) (hk : Keeps K w0 w)
    (hx : Below w.heap.size w wx) (hs : wx.heap[w.heap.size]? = some (sdBlk (.slice none 0 0) (.slice none 0 0) 0 k true false)) (hxz : wx.heap.size = w.heap.size + 2)
    (hown : w2.ownsRow 0 90 1 (.slice (some ⟨g2, 0, none⟩) (m + 1) cap2) (m + 1) (ptrs ps m ++ [.pointer (some ⟨w.heap.size, 0, none⟩)])) (hgrow : wx.grownBy w2 vs.ownBlock) (hat : vs.ownBlock = some g2 ∨ g2 = w.heap.size + 2) :
    WdSt K w0 (w2.setCell ⟨p, 1, none⟩ (.slice (some ⟨g2, 0, none⟩) (m + 1) cap2)) p d (m + 1) (psOpen ps m w.heap.size) { W with sd := fun j => if j = m then Sd.begun k else W.sd j } := by
  have hpz := lt_of_blk' h.blk
  have hz2 : w.heap.size + 2 ≤ w2.heap.size := by have := hgrow.size; omega
  have hvp : ∀ b, vs.ownBlock = some b → b ≠ p := by
    intro b e e'
    subst e'
    rcases h.row.2 with ⟨e', _⟩ | ⟨g', c', cur, e', _, hh, _⟩
    · rw [e'] at e; simp [Value.ownBlock] at e
    · rw [e'] at e; simp [Value.ownBlock] at e; subst e
      rw [h.blk] at hh; cases hh
  have hvz : ∀ b, vs.ownBlock = some b → b < w.heap.size := fun b e => ownsRow_lt h.row e
  have hg2p : g2 ≠ p := by
    rcases hat with e | e
    · exact hvp _ e
    · omega
  have hg2s : g2 ≠ w.heap.size := by
    rcases hat with e | e
    · have := hvz _ e; omega
    · omega
  have hkeep : ∀ b, b < w.heap.size → b ≠ p → vs.ownBlock ≠ some b → (w2.setCell ⟨p, 1, none⟩ (.slice (some ⟨g2, 0, none⟩) (m + 1) cap2)).heap[b]? = w.heap[b]? := by
    intro b hb hp hv
    rw [Below.heap_setCell _ _ _ _ hp, hgrow.block b (by omega) (fun e => hv e.symm), hx.block b hb]
  have hkeepo : ∀ b, own b ≠ 0 → own b ≠ 1000 → (w2.setCell ⟨p, 1, none⟩ (.slice (some ⟨g2, 0, none⟩) (m + 1) cap2)).heap[b]? = w.heap[b]? := fun b e0 e1 =>
    hkeep b (h.lt b e0) (fun e => by subst e; exact e1 h.op) (fun e => e1 (h.ors b e))
  obtain ⟨vt, vk, rs, hin⟩ := h.desk
  have hin' := hin.keep (w' := w2.setCell ⟨p, 1, none⟩ (.slice (some ⟨g2, 0, none⟩) (m + 1) cap2)) (by rw [setCell_size]; omega) (fun b e => hkeepo b (by omega) (by omega))
  have hold : ∀ b n, n ≠ 0 → own b = n → (if own b = 0 then (if b = w.heap.size then 2 + m else if b = g2 then 1000 else 0) else own b) = n := fun b n hn e => by rw [if_neg (by omega)]; exact e
  have hnone : ∀ b, w.heap.size ≤ b → own b = 0 := fun b hb => Decidable.byContradiction fun hn => by have := h.lt b hn; omega
  refine ⟨fun b => if own b = 0 then (if b = w.heap.size then 2 + m else if b = g2 then 1000 else 0) else own b, .slice (some ⟨g2, 0, none⟩) (m + 1) cap2, fun j => if j = m then .slice none 0 0 else vx j, fun j => if j = m then .slice none 0 0 else vw j, ⟨?_, hold p 1000 (by omega) h.op, ?_, ?_, ?_, ?_, ?_, by omega⟩, fun b e => ⟨?_, (h2K b e).2⟩, ?_⟩
  · refine wd_set1 (vs := vs) ?_
    rw [hgrow.block p (by omega) (fun e => hvp p e.symm rfl), hx.block p hpz]
    exact h.blk
  · rw [ptrs_open]
    exact ownsRow_block hown (fun b e => by simp [Value.ownBlock] at e; subst e; exact Below.heap_setCell _ _ _ _ hg2p)
  · intro b e
    simp [Value.ownBlock] at e
    subst e
    rcases hat with e | e
    · exact hold _ _ (by omega) (h.ors _ e)
    · rw [if_pos (hnone _ (by omega)), if_neg hg2s, if_pos rfl]
  · refine ⟨vt, vk, rs, hin'.blk, hold _ _ (by omega) hin'.fd, hin'.tp, fun b e => hold _ _ (by omega) (hin'.ftp b e), hin'.row, fun b e => hold _ _ (by omega) (hin'.frow b e), hin'.len, fun i hi => (hin'.lv i hi).mono (fun b e _ => hold _ _ (by omega) e), fun i hi => hold _ _ (by omega) (hin'.flv i hi), fun b e => ?_, hin'.tk, fun i hi b e => hold _ _ (by omega) (hin'.ftk i hi b e), hin'.dtk⟩
    rw [setCell_size]
    by_cases e0 : own b = 0
    · rw [if_pos e0] at e
      by_cases e1 : b = w.heap.size
      · omega
      · rw [if_neg e1] at e
        by_cases e2 : b = g2
        · rw [if_pos e2] at e; omega
        · rw [if_neg e2] at e; omega
    · have := h.lt b e0; omega
  · intro j hj
    by_cases e : j = m
    · subst e
      simp only [psOpen, if_true]
      refine ⟨?_, ?_, Ints.nil _, ?_, fun b e => by simp [Value.ownBlock] at e, fun b e => by simp [Value.ownBlock] at e, fun b e => by simp [Value.ownBlock] at e, rfl⟩
      · rw [Below.heap_setCell _ _ _ _ (by show w.heap.size ≠ p; omega), hgrow.block _ (by omega) (fun e => by have := hvz _ e.symm; omega)]
        exact hs
      · show (if own w.heap.size = 0 then _ else _) = _
        rw [if_pos (hnone _ (Nat.le_refl _)), if_pos rfl]
      · exact Ints.nil _
    · simp only [psOpen, if_neg e]
      have hj' : j < m := by omega
      have hs := (h.side j hj').keep (w' := w2.setCell ⟨p, 1, none⟩ (.slice (some ⟨g2, 0, none⟩) (m + 1) cap2)) (fun b e' _ => hkeepo b (by omega) (by omega))
      exact ⟨hs.blk, hold _ _ (by omega) hs.gp, hs.ix, hs.iw, fun b e => hold _ _ (by omega) (hs.gx b e), fun b e => hold _ _ (by omega) (hs.gw b e), hs.ne, hs.len⟩
  · intro b e
    rw [setCell_size]
    by_cases e0 : own b = 0
    · rw [if_pos e0] at e
      by_cases e1 : b = w.heap.size
      · omega
      · rw [if_neg e1] at e
        by_cases e2 : b = g2
        · subst e2; exact ownsRow_lt hown rfl
        · rw [if_neg e2] at e; omega
    · have := h.lt b e0; omega
  · have e1 := h2K b e
    have := hk.size
    have hvb : b ≠ g2 := by
      rcases hat with e2 | e2
      · intro e3; subst e3; have := h.ors _ e2; omega
      · omega
    show (if own b = 0 then _ else _) = 0
    rw [if_pos e1.1, if_neg (by omega), if_neg hvb]
  · refine ⟨hgrow.os.trans (hx.os.trans hk.os), hgrow.tape.trans (hx.tape.trans hk.tape), hgrow.output.trans (hx.output.trans hk.output), by rw [setCell_size]; have := hk.size; omega, fun b e => ?_⟩
    have e1 := h2K b e
    have := hk.size
    rw [hkeep b (by omega) (fun e2 => by subst e2; have := h.op; omega) (fun e2 => by have := h.ors b e2; omega)]
    exact hk.block b e

theorem Try.infoSideP : (Try.prog.info? 90).map (fun i => (i.zero, i.size, i.bytes)) = some (some (.pointer none), 1, 8) := by kernel_rfl
theorem one_ptr (x : Option Addr) : ∀ u ∈ [Value.pointer x], u.oneCell' = true := by
  intro u hu; simp at hu; subst hu; rfl

set_option maxHeartbeats 1000000 in
set_option maxRecDepth 100000 in
theorem wopen_any (p d m k : Nat) (ps : Nat → Nat) (W : Wd) (w : World) (h : WdSt K w0 w p d m ps W) (hm : m < 4) (hk1 : 2 ≤ k) (hk2 : k ≤ 64) (hl : W.D.sks.length = m) (hr : W.D.room = 4) :
    Calls Try.prog 53 #[.pointer (some ⟨p, 0, none⟩), .int .i64 (m : Int), .int .i64 (k : Int)] w fun e w' => e = .returned (.bool true) ∧ ∃ ps', WdSt K w0 w' p d (m + 1) ps' (W.opened m k) := by
  obtain ⟨own, vs, vx, vw, h, h2K, hk⟩ := h
  obtain ⟨c0, c1, c2, c3, c4, c5, c6, cz⟩ := blk7 h.blk
  have HO := hid (open_any (F := fun b => own b = 1) d k W.D w h.desk hk1 hk2 (by omega) (by omega))
  rw [hl] at HO
  have HH := hid h
  have H2 := hid h2K
  have HK := hid hk
  obtain ⟨i0, hi0, hz0, hz1, hz2⟩ := info_parts Try.infoSideP
  clear h h2K hk
  go_enter Try.func53, Try.ntmps53
  go_wp2_with fail
  refine HO.out.mono ?_
  rintro e w1 ⟨rfl, hst⟩
  have hst1 := HH.out.deskStep H2.out HK.out hst
  obtain ⟨own1, vs1, vx1, vw1, h1, h2K1, hk1'⟩ := hst1
  obtain ⟨d0, d1, d2, d3, d4, d5, d6, dz⟩ := blk7 h1.blk
  have hpz := lt_of_blk' h1.blk
  have H1 := hid h1
  have H21 := hid h2K1
  have HK1 := hid hk1'
  have HROW := hid h1.row
  have HVP : Hid (∀ b, vs1.ownBlock = some b → b ≠ p) := by
    intro b e e'
    subst e'
    rcases h1.row.2 with ⟨e', _⟩ | ⟨g', c', cur, e', _, hh, _⟩
    · rw [e'] at e; simp [Value.ownBlock] at e
    · rw [e'] at e; simp [Value.ownBlock] at e; subst e
      rw [h1.blk] at hh; cases hh
  have HBP := hid h1.blk
  obtain ⟨ao, cc, evs⟩ : ∃ ao cc, vs1 = .slice ao m cc := by
    rcases h1.row.2 with ⟨e', e2⟩ | ⟨g', c', cur, e', _⟩
    · exact ⟨none, 0, by rw [e', e2]⟩
    · exact ⟨_, _, e'⟩
  have HVS := hid evs
  rw [evs] at d1 HROW
  clear hst h1 h2K1 hk1' c0 c1 c2 c3 c4 c5 c6 cz evs hl
  go_wp2_with (first | (at_builtin; refine wpList_append_lies _ rfl (.tmp 22) (.tmp 26) 29 rfl 0 90 i0 (.pointer none) 1 8 Try.underlying29 hi0 hz0 hz1 hz2 rfl (by decide) (.slice ao m cc) m (ptrs ps m) rfl ((HROW.out.alloc _).alloc _) ⟨w1.heap.size + 1, 0, none⟩ 1 1 [.pointer (some ⟨w1.heap.size, 0, none⟩)] rfl rfl (one_new' (by simp) _ _) (one_ptr _) (by decide) (by unfold maxLen; omega) (by omega) (Nat.zero_le _) (w1.heap.size + 2) (by simp) ?_; intro g2 cap2 w2 hown2 hgrow2 hat2 hlt2; have hq2 : w2.heap[p]? = _ := (hgrow2.block p (by simp; omega) (fun e => HVP.out p (by rw [HVS.out]; exact e.symm) rfl)).trans ((Below.heap_alloc _ _ p (by simp; omega)).trans ((Below.heap_alloc w1 _ p hpz).trans HBP.out)); obtain ⟨q0, q1, q2, q3, q4, q5, q6, qz⟩ := blk7 hq2; have HO2 := hid hown2; have HG2 := hid hgrow2; have HA2 := hid hat2; clear hq2 hown2 hgrow2 hat2))
  go_ret
  refine ⟨rfl, psOpen ps m w1.heap.size, ?_⟩
  have hg2 := HG2.out
  have ha2 := HA2.out
  rw [← HVS.out] at hg2 ha2
  exact H1.out.push hm H21.out HK1.out (((Below.refl _ _).alloc (Nat.le_refl _) _).alloc (by simp) _) (by rw [Below.heap_alloc _ _ _ (by simp)]; exact heap_alloc_new _ _) (by simp) HO2.out hg2 ha2

/-- The three K out of the raw number. -/
def vOf (k : Int) : Nat → Nat
  | 0 => pickN k 1099511627776
  | n + 1 => vOf k n / 63
def kOf (k : Int) (i : Nat) : Nat := 2 + vOf k i % 63
theorem vOf_le (k : Int) (i : Nat) : vOf k i ≤ 1099511627776 := by
  induction i with
  | zero => have := pickN_lt k (n := 1099511627776) (by omega); simp only [vOf]; omega
  | succ i ih => simp only [vOf]; omega
theorem kOf_bd (k : Int) (i : Nat) : 2 ≤ kOf k i ∧ kOf k i ≤ 64 := by unfold kOf; omega

def Wd.start (coins : ByteArray) : Wd := { D := ⟨4, [], []⟩, sd := fun _ => Sd.begun 0, coins := coins, at_ := 0, used := 0, most := -1, short := false }
/-- The world with the first m sketches. -/
def Wd.first (k : Int) (coins : ByteArray) : Nat → Wd
  | 0 => Wd.start coins
  | m + 1 => (Wd.first k coins m).opened m (kOf k m)
theorem first_len (k : Int) (coins : ByteArray) (m : Nat) : (Wd.first k coins m).D.sks.length = m ∧ (Wd.first k coins m).D.room = 4 := by
  induction m with
  | zero => exact ⟨rfl, rfl⟩
  | succ m ih => simp [Wd.first, Wd.opened, ih.1, ih.2]

set_option maxHeartbeats 1000000 in
set_option maxRecDepth 100000 in
theorem begin_w (k : Int) (coins : ByteArray) (w : World) (h1 : -9223372036854775808 ≤ k) (h2 : k ≤ 9223372036854775807) :
    Calls Try.prog 30 #[.int .i64 k, .string coins] w fun e w' => ∃ p d ps, e = .returned (.pointer (some ⟨p, 0, none⟩)) ∧ WdSt (fun b => b < w.heap.size) w w' p d 3 ps (Wd.first k coins 3) := by
  have HN := hid (new_any 4 w (by omega) (by omega))
  have HP := hid (fun (w' : World) => pick_any k 1099511627776 w' h1 h2 (by omega) (by omega))
  go_enter Try.func30, Try.ntmps30
  go_wp2_with fail
  refine HN.out.mono ?_
  rintro e w1 ⟨rfl, hd, hb1⟩
  have HD := hid hd
  have HB1 := hid hb1
  have hz1 : w.heap.size < w1.heap.size := by
    obtain ⟨_, _, _, hin⟩ := hd
    exact hin.flt _ rfl
  clear hd hb1
  go_wp2_with (first | (go_at_call 9; refine (HP.out _).mono ?_; rintro e w' ⟨rfl, hw⟩; obtain rfl := hw.symm))
  have HST : Hid (WdSt (fun b => b < w.heap.size) w (w1.alloc (wdBlk w.heap.size (.slice none 0 0) (Wd.start coins))) w1.heap.size w.heap.size 0 (fun _ => 0) (Wd.first k coins 0)) := by
    obtain ⟨vt, vk, rs, hin⟩ := HD.out
    have hin' := hin.below ((Below.refl _ _).alloc (Nat.le_refl _) (wdBlk w.heap.size (.slice none 0 0) (Wd.start coins)))
    have hF : ∀ b, b = w.heap.size → (if b = w.heap.size then 1 else if b = w1.heap.size then 1000 else 0) = 1 := fun b e => by rw [if_pos e]
    refine ⟨fun b => if b = w.heap.size then 1 else if b = w1.heap.size then 1000 else 0, .slice none 0 0, fun _ => .slice none 0 0, fun _ => .slice none 0 0, ⟨heap_alloc_new _ _, ?_, World.ownsRow_nil _ _ _ _, fun b e => by simp [Value.ownBlock] at e, ⟨vt, vk, rs, hin'.blk, hF _ hin'.fd, hin'.tp, fun b e => hF b (hin'.ftp b e), hin'.row, fun b e => hF b (hin'.frow b e), hin'.len, fun i hi => (hin'.lv i hi).mono (fun b e _ => hF b e), fun i hi => hF _ (hin'.flv i hi), fun b e => ?_, hin'.tk, fun i hi b e => hF _ (hin'.ftk i hi b e), hin'.dtk⟩, fun i hi => by omega, fun b e => ?_, by omega⟩, fun b e => ⟨?_, e⟩, ?_⟩
    · rw [if_neg (by omega), if_pos rfl]
    · by_cases e1 : b = w.heap.size
      · simp; omega
      · rw [if_neg e1] at e
        by_cases e2 : b = w1.heap.size
        · rw [if_pos e2] at e; omega
        · rw [if_neg e2] at e; omega
    · by_cases e1 : b = w.heap.size
      · simp; omega
      · rw [if_neg e1] at e
        by_cases e2 : b = w1.heap.size
        · simp; omega
        · rw [if_neg e2] at e; omega
    · show (if b = w.heap.size then 1 else if b = w1.heap.size then 1000 else 0) = 0
      have e9 : b < w.heap.size := e
      rw [if_neg (by omega), if_neg (by omega)]
    · have hb := HB1.out.alloc HB1.out.size (wdBlk w.heap.size (.slice none 0 0) (Wd.start coins))
      exact ⟨hb.os, hb.tape, hb.output, hb.size, hb.block⟩
  clear HN HD
  generalize hpp : w1.heap.size = p at *
  clear hpp HB1
  go_loopw [8, 9] (fun sv si wr => ∃ (m : Nat) (ps : Nat → Nat), m ≤ 3 ∧ si = .int .i64 m ∧ sv = .int .i64 (vOf k m : Int) ∧ Hid (WdSt (fun b => b < w.heap.size) w wr p w.heap.size m ps (Wd.first k coins m))) (fun _ si _ => 3 - (intOf si).toNat)
  case atStart => exact ⟨0, _, Nat.zero_le _, rfl, rfl, HST⟩
  case round =>
    obtain ⟨m, ps, hm, rfl, rfl, Hst⟩ := hrel
    clear HST
    by_cases hlt : m < 3
    · have hl := first_len k coins m
      have hkb := kOf_bd k m
      have HO := hid (wopen_any p w.heap.size m (kOf k m) ps _ wr Hst.out (by omega) hkb.1 hkb.2 hl.1 hl.2)
      have hvb := vOf_le k m
      have HKE : Hid (kOf k m = 2 + vOf k m % 63) := rfl
      have HVE : Hid (vOf k (m + 1) = vOf k m / 63) := rfl
      have ek : (kOf k m : Int) = 2 + (vOf k m : Int) % 63 := by unfold kOf; omega
      rw [ek] at HO
      generalize vOf k m = v at *
      clear hl hkb ek
      go_wp2_with fail
      refine HO.out.mono ?_
      rintro e w2 ⟨rfl, ps', hst2⟩
      have HS2 := hid hst2
      clear hst2
      go_wp2_with fail
      go_roundw
      case rel => exact ⟨m + 1, ps', by omega, by go_num, by rw [HVE.out]; go_num, HS2⟩
      case measure => simp [intOf]; omega
    · have hm3 : m = 3 := by omega
      subst hm3
      go_wp2_with fail
      go_ret
      exact ⟨p, w.heap.size, ps, rfl, Hst.out⟩

end Go.Proofs.Ytklicjbpjigfdab
