/- DERIVED. The walk of the statement's own copied: one side more, of which the same came in. -/
import Derived.Test.YtklicjbpjigfdabMc
import Derived.Test.YtklicjbpjigfdabNb
import Derived.Deep.RegionWith
import Derived.Deep.DrawnRows
import Derived.Test.YtklicjbpjigfdabMw
import Derived.Test.YtklicjbpjigfdabMv
import Derived.Test.YtklicjbpjigfdabMr
namespace Go.Proofs.Ytklicjbpjigfdab
open Go.RowKit
attribute [local go_sem ↓] Go.wp_at_zero Go.wp_at_succ
variable {K : Nat → Prop} {w0 : World}

theorem SideAt.mono {F G : Nat → Prop} {w : World} {p : Nat} {s : Sd} {vx vw : Value} (h : SideAt F w p s vx vw) (hFG : ∀ b, F b → G b) : SideAt G w p s vx vw :=
  ⟨h.blk, hFG _ h.gp, h.ix, h.iw, fun b e => hFG b (h.gx b e), fun b e => hFG b (h.gw b e), h.ne, h.len⟩
theorem SideAt.setOnes {G : Nat → Prop} {w : World} {p : Nat} {s : Sd} {vx vw : Value} (h : SideAt G w p s vx vw) (o : Bool) : SideAt G (w.setCell ⟨p, 4, none⟩ (.bool o)) p { s with ones := o } vx vw := by
  have hkI : IntsKept w (w.setCell ⟨p, 4, none⟩ (.bool o)) := IntsKept.set h.blk (by decide)
  refine ⟨?_, h.gp, h.ix.kept hkI, h.iw.kept hkI, h.gx, h.gw, h.ne, h.len⟩
  have := blk_set (i := 4) (.bool o) h.blk
  simpa using this

/-- A side into which nothing came, with the K and the ones of another. -/
def Sd.fresh (k : Nat) (o : Bool) : Sd := { Sd.begun k with ones := o }

/-- Where all stands, when it fills a side that is nobody's yet. -/
structure CpSt (N0 g0 s0 : Nat) (wa wr : World) (ws : List Nat) (n : Nat) (s : Sd) : Prop where
  side : ∃ vx vw, SideAt (fun b => N0 ≤ b ∧ b < wr.heap.size ∧ b ≠ g0) wr s0 s vx vw
  bel : Below N0 wa wr
  cop : Ints wr (.slice (some ⟨g0, 0, none⟩) n n) (nats ws)
  g : N0 ≤ g0 ∧ g0 < wr.heap.size

set_option maxHeartbeats 2000000 in
set_option maxRecDepth 100000 in
theorem allf_any (s0 pj N0 : Nat) (G : Nat → Prop) (b : Hd) (sj : Sd) (vxn vwn vxj vwj : Value) (w : World) (hN : N0 ≤ w.heap.size) (hs : SideAt (fun b => N0 ≤ b ∧ b < w.heap.size) w s0 (Sd.fresh sj.k sj.ones) vxn vwn) (hj : SideAt G w pj sj vxj vwj) (hG : ∀ b, G b → b < N0) (cj : Came b sj) :
    Calls Try.prog 36 #[.pointer (some ⟨s0, 0, none⟩), .pointer (some ⟨pj, 0, none⟩)] w fun e w' => e = .returned (.tuple #[]) ∧ (∃ vx vw, SideAt (fun b => N0 ≤ b ∧ b < w'.heap.size) w' s0 ((Sd.fresh sj.k sj.ones).all sj) vx vw) ∧ Below N0 w w' := by
  obtain ⟨c0, c1, c2, c3, c4, c5, cz⟩ := blk6 hj.blk
  have hnl : (nats sj.ws).length = sj.xs.length := by simp [nats, hj.len]
  obtain ⟨ao, cc, ex, hcl, hcm, hno, hso⟩ := hj.ix.form
  obtain ⟨bo, cb, ew, hcl2, hcm2, hno2, hso2⟩ := hj.iw.form
  rw [ex] at c0
  rw [ew, hnl] at c1
  have HIW := hid hj.iw
  rw [ew, hnl] at HIW
  have hxb : sj.xs.length ≤ 1099511627 := cj.inok.xl
  have hjz := lt_of_blk' hj.blk
  have HJ := hid hj
  have HS := hid hs
  have HG := hid hG
  obtain ⟨i0, hi0, hz0, hz1, hz2⟩ := info_parts Try.infoInt
  generalize hn : sj.xs.length = n at *
  have HN := hid hn
  have HNL := hid hnl
  have CJ := hid cj
  clear hj hs ex ew hno hso hno2 hso2 hn hnl cj c2 c3 c4 c5 hG
  go_enter Try.func36, Try.ntmps36
  go_wp2_with (first | (at_make; refine wpList_make_full _ rfl _ _ 91 rfl w.heap.size 3 i0 (.int .i64 0) 1 Try.underlying91 hi0 hz0 hz1 _ _ _ _ n rfl rfl (by rfl) (by rfl) (by rw [hz2]; omega) (by unfold maxLen; omega) (Nat.le_refl _) ?_; intro w1 hown1 hgrow1; have hb1 : Below w.heap.size w w1 := (Below.refl _ _).grown hgrow1 (Nat.le_refl _) (fun k h => by cases h); have p1 := cell_later hb1 c1; have HB1 := hid hb1; obtain ⟨w2, hrun, hown2, hgrow2⟩ := run_copy_ints w1 i0 hi0 hz1 hown1 (HIW.out.below hb1) HNL.out.symm; have HO2 := hid hown2; have HG2 := hid hgrow2; clear hown1 hgrow1 hb1 hown2 hgrow2))
  have hb2 : Below w.heap.size w w2 := HB1.out.grown HG2.out HB1.out.size (fun k h => by cases h; exact Nat.le_refl _)
  have hI2 : Ints w2 (.slice (some ⟨w.heap.size, 0, none⟩) n n) (nats sj.ws) := Ints.of HO2.out
  have hgz : w.heap.size < w2.heap.size := ownsRow_lt hI2 rfl
  have HC0 : Hid (CpSt N0 w.heap.size s0 w w2 sj.ws n (putN (Sd.fresh sj.k sj.ones) sj.xs sj.ws 0)) := ⟨⟨vxn, vwn, (HS.out.below hb2).mono (fun b e => ⟨e.1, by have := hb2.size; omega, by omega⟩)⟩, hb2.mono hN, hI2, hN, hgz⟩
  generalize hg0 : w.heap.size = g0 at *
  clear hb2 hI2 p1 c0 c1 HB1 HO2 HG2 hrun HIW cz hjz hg0 hgz HS
  go_loopw [6] (fun si wr => ∃ r : Nat, si = .int .i64 r ∧ r ≤ n ∧ Hid (CpSt N0 g0 s0 w wr sj.ws n (putN (Sd.fresh sj.k sj.ones) sj.xs sj.ws r))) (fun si _ => n - (intOf si).toNat)
  case atStart => exact ⟨0, rfl, Nat.zero_le _, HC0⟩
  case round =>
    obtain ⟨r, rfl, hrn, Hst⟩ := hrel
    clear HC0
    obtain ⟨vx1, vw1, hsi⟩ := Hst.out.side
    have hsj := HJ.out.keep (w' := wr) (fun b e hl => Hst.out.bel.block b (HG.out b e))
    have hrest := putN_rest (Sd.fresh sj.k sj.ones) sj.xs sj.ws r
    obtain ⟨c0, c1, c2, c3, c4, c5, cz⟩ := blk6 hsj.blk
    obtain ⟨d0, d1, d2, d3, d4, d5, dz⟩ := blk6 hsi.blk
    rw [hrest.1] at d3
    rw [hrest.2.1] at d4
    have hix := hsj.ix
    obtain ⟨ao1, cc1, ex, hcl1, hcm1, hno, hso⟩ := hix.form
    rw [ex, HN.out] at c0
    have hI3 := Hst.out.cop
    by_cases hlt : r < n
    · obtain ⟨gc, rfl⟩ : ∃ g, ao1 = some ⟨g, 0, none⟩ := by
        cases ao1 with
        | none => have h9 := (hno rfl).1; have h8 := HN.out; rw [h9] at h8; simp at h8; omega
        | some a => obtain ⟨g, rfl, _⟩ := hso a rfl; exact ⟨g, rfl⟩
      obtain ⟨gc', e1, hgc, hcc⟩ := hso _ rfl
      cases e1
      have hcell := hcc r (by rw [HN.out]; exact hlt)
      obtain ⟨ao2, cc2, ex2, _, _, _, hso2⟩ := hI3.form
      rw [HNL.out] at ex2 hso2
      cases ex2
      obtain ⟨gd', e2, hgd, hcd⟩ := hso2 _ rfl
      cases e2
      have hcell2 := hcd r hlt
      rw [nats_getD] at hcell2
      have hs1 : (0 : Int) ≤ (r : Int) := by omega
      have hs2 : (r : Int) < (n : Int) := by omega
      have hnn := putN_n (Sd.fresh sj.k sj.ones) sj.xs sj.ws r (by rw [← CJ.out.len, HN.out]; exact hrn)
      have hta := wAll_take_le sj.ws r
      have hwr : sj.ws.getD r 0 ≤ 268435456 := CJ.out.inok.wl r
      have hbj : sj.n ≤ 268435456 := by rw [CJ.out.inok.n]; exact CJ.out.inok.ok.cnt
      have hsj9 := CJ.out.sum
      have hlen9 := putN_len (Sd.fresh sj.k sj.ones) sj.xs sj.ws r
      have hf0 : (Sd.fresh sj.k sj.ones).n = 0 := rfl
      have hfx : (Sd.fresh sj.k sj.ones).xs = [] := rfl
      have hfw : (Sd.fresh sj.k sj.ones).ws = [] := rfl
      obtain ⟨f1, f2, f3, f4, f5, f6, f7⟩ := putN_facts (s := Sd.fresh sj.k sj.ones) rfl (by rw [hfw]; intro v hv; simp at hv) CJ.out.len CJ.out.pos r (by rw [HN.out]; exact hrn)
      have HPU := hid (fun (wx : World) (hx : SideAt (fun b => N0 ≤ b ∧ b < wr.heap.size ∧ b ≠ g0) wx s0 (putN (Sd.fresh sj.k sj.ones) sj.xs sj.ws r) vx1 vw1) (hz : wr.heap.size ≤ wx.heap.size) => put_any s0 _ vx1 vw1 (sj.xs.getD r 0) (sj.ws.getD r 0) wx hx (by rw [hfx] at hlen9; simp at hlen9; omega) (by omega) (fun t => by have := wAll_at (ws := (putN (Sd.fresh sj.k sj.ones) sj.xs sj.ws r).ws) (i := t); rw [hfw] at f2; simp [wAll] at f2; omega) (fun b hb => by omega))
      have HSI := hid hsi
      generalize hP1 : putN (Sd.fresh sj.k sj.ones) sj.xs sj.ws r = P1 at *
      have HP2 : Hid (putN (Sd.fresh sj.k sj.ones) sj.xs sj.ws (r + 1) = P1.put (sj.xs.getD r 0) (sj.ws.getD r 0)) := by rw [← hP1]; exact rfl
      generalize sj.ws.getD r 0 = wt at *
      generalize sj.xs.getD r 0 = xr at *
      clear hsi hsj hix ex hno hso hcc hcd hso2 f1 f2 f3 f4 f5 f6 f7 hnn hta c1 c2 c3 c4 c5 d0 d1 d2 d3 d4 d5 hrest hsj9 hlen9 hP1 hI3 hf0 hfx hfw
      go_wp2_with fail
      go_region_with (first | (go_at_call 70; refine (HPU.out _ HSI.out.drew (Nat.le_refl _)).mono ?_; rintro e w3 ⟨rfl, vx3, vw3, hs3, hf3⟩))
      all_goals
        have HC3 : Hid (CpSt N0 g0 s0 w w3 sj.ws n (putN (Sd.fresh sj.k sj.ones) sj.xs sj.ws (r + 1))) := by
          rw [HP2.out]
          have hf4 : Fr (fun b => N0 ≤ b ∧ b < wr.heap.size ∧ b ≠ g0) wr w3 := fr_undrew hf3
          have hzz := hf4.size
          have hgg := Hst.out.g
          refine ⟨⟨vx3, vw3, hs3.mono (fun b e => ?_)⟩, Hst.out.bel.trans (hf4.toBelow (by omega) (fun b e => e.1)), Hst.out.cop.block (fun b e => ?_), hgg.1, by omega⟩
          · have e2 : (wr.drew).heap.size = wr.heap.size := rfl
            rcases e.1 with h | h
            · exact ⟨h.1, e.2, h.2.2⟩
            · rw [e2] at h; exact ⟨by omega, e.2, by omega⟩
          · simp [Value.ownBlock] at e; subst e
            exact hf4.block _ hgg.2 (fun h => h.2.2 rfl)
        clear hs3 hf3
        go_wp2_with fail
        go_roundw
        case rel => exact ⟨r + 1, by go_num, by omega, HC3⟩
        case measure => simp [intOf]; omega
    · have hrn' : r = n := by omega
      subst hrn'
      have HEQ : Hid ((Sd.fresh sj.k sj.ones).all sj = { putN (Sd.fresh sj.k sj.ones) sj.xs sj.ws r with ones := sj.ones }) := by
        unfold Hid Sd.all
        rw [HN.out]
        have h1 : (Sd.fresh sj.k sj.ones).k = sj.k := rfl
        have h2 : (Sd.fresh sj.k sj.ones).ones = sj.ones := rfl
        rw [h1, h2, if_neg (Nat.lt_irrefl _), Bool.and_self]
        have h3 := hrest.1
        rw [h1] at h3
        generalize putN (Sd.fresh sj.k sj.ones) sj.xs sj.ws r = P at *
        cases P
        simp only at h3 ⊢
        rw [h3]
      have hk9 : (Sd.fresh sj.k sj.ones).k = sj.k := rfl
      have ho9 : (Sd.fresh sj.k sj.ones).ones = sj.ones := rfl
      rw [hk9] at d3
      rw [ho9] at d4
      obtain ⟨oj, hoj⟩ : ∃ o, o = sj.ones := ⟨_, rfl⟩
      obtain ⟨kj, hkj⟩ : ∃ k, k = sj.k := ⟨_, rfl⟩
      rw [← hoj] at c4 d4
      rw [← hkj] at c3 d3
      have HSI := hid hsi
      have HFI : Hid (∀ q : Nat, (∃ vx vw, SideAt (fun b => N0 ≤ b ∧ b < ((wr.drewN q).setCell ⟨s0, 4, none⟩ (.bool oj)).heap.size) ((wr.drewN q).setCell ⟨s0, 4, none⟩ (.bool oj)) s0 ((Sd.fresh sj.k sj.ones).all sj) vx vw) ∧ Below N0 w ((wr.drewN q).setCell ⟨s0, 4, none⟩ (.bool oj))) := by
        intro q
        rw [hoj]
        rw [HEQ.out]
        have hd : SideAt (fun b => N0 ≤ b ∧ b < wr.heap.size ∧ b ≠ g0) (wr.drewN q) s0 (putN (Sd.fresh sj.k sj.ones) sj.xs sj.ws r) vx1 vw1 := ⟨HSI.out.blk, HSI.out.gp, HSI.out.ix, HSI.out.iw, HSI.out.gx, HSI.out.gw, HSI.out.ne, HSI.out.len⟩
        refine ⟨⟨vx1, vw1, (hd.setOnes sj.ones).mono (fun b e => ⟨e.1, by rw [setCell_size]; exact e.2.1⟩)⟩, ?_⟩
        exact (below_drewN Hst.out.bel q).setCell (by have := HSI.out.gp.1; simpa using this) _
      have hkk' : decide ((kj : Int) < (kj : Int)) = false := by simp
      clear hsi hsj hix ex hno hso hrest c0 c1 c2 c5 d0 d1 d2 d5 HEQ hrn hlt hI3 hk9 ho9 hoj hkj
      cases oj
      · go_wp2_with fail
        go_quiet (fail)
        go_wp2_with fail
        go_end0
        exact ⟨rfl, HFI.out _⟩
      · go_wp2_with fail
        go_quiet (fail)
        go_wp2_with fail
        go_end0
        exact ⟨rfl, HFI.out _⟩

/-- One side more, whatever came into it. -/
theorem WdAt.pushS {own : Nat → Nat} {w wx w2 : World} {p d m g2 cap2 s0 N : Nat} {W : Wd} {ps : Nat → Nat} {vs vxn vwn : Value} {vx vw : Nat → Value} {sn : Sd} (h : WdAt own w p d m W ps vs vx vw) (hm : m < 4) (h2K : ∀ b, K b → own b = 0 ∧ b < w0.heap.size) (hk : Keeps K w0 w)
    (hx : Below w.heap.size w wx) (hs : SideAt (fun b => w.heap.size ≤ b ∧ b < N) wx s0 sn vxn vwn) (hN : N ≤ wx.heap.size) (hN2 : w.heap.size ≤ N)
    (hown : w2.ownsRow 0 90 1 (.slice (some ⟨g2, 0, none⟩) (m + 1) cap2) (m + 1) (ptrs ps m ++ [.pointer (some ⟨s0, 0, none⟩)])) (hgrow : wx.grownBy w2 vs.ownBlock) (hat : vs.ownBlock = some g2 ∨ N ≤ g2) :
    WdSt K w0 (w2.setCell ⟨p, 1, none⟩ (.slice (some ⟨g2, 0, none⟩) (m + 1) cap2)) p d (m + 1) (psOpen ps m s0) { W with sd := fun j => if j = m then sn else W.sd j } := by
  have hpz := lt_of_blk' h.blk
  have hz2 : N ≤ w2.heap.size := by have := hgrow.size; omega
  have hwz := hx.size
  have hvp : ∀ b, vs.ownBlock = some b → b ≠ p := by
    intro b e e'
    subst e'
    rcases h.row.2 with ⟨e', _⟩ | ⟨g', c', cur, e', _, hh, _⟩
    · rw [e'] at e; simp [Value.ownBlock] at e
    · rw [e'] at e; simp [Value.ownBlock] at e; subst e
      rw [h.blk] at hh; cases hh
  have hvz : ∀ b, vs.ownBlock = some b → b < w.heap.size := fun b e => ownsRow_lt h.row e
  have hg2p : g2 ≠ p := by
    rcases hat with e | e
    · exact hvp _ e
    · omega
  have hg2s : ¬ (w.heap.size ≤ g2 ∧ g2 < N) := by
    rcases hat with e | e
    · have := hvz _ e; omega
    · omega
  have hkeep : ∀ b, b < w.heap.size → b ≠ p → vs.ownBlock ≠ some b → (w2.setCell ⟨p, 1, none⟩ (.slice (some ⟨g2, 0, none⟩) (m + 1) cap2)).heap[b]? = w.heap[b]? := by
    intro b hb hp hv
    rw [Below.heap_setCell _ _ _ _ hp, hgrow.block b (by omega) (fun e => hv e.symm), hx.block b hb]
  have hkeepo : ∀ b, own b ≠ 0 → own b ≠ 1000 → (w2.setCell ⟨p, 1, none⟩ (.slice (some ⟨g2, 0, none⟩) (m + 1) cap2)).heap[b]? = w.heap[b]? := fun b e0 e1 =>
    hkeep b (h.lt b e0) (fun e => by subst e; exact e1 h.op) (fun e => e1 (h.ors b e))
  obtain ⟨vt, vk, rs, hin⟩ := h.desk
  have hin' := hin.keep (w' := w2.setCell ⟨p, 1, none⟩ (.slice (some ⟨g2, 0, none⟩) (m + 1) cap2)) (by rw [setCell_size]; omega) (fun b e => hkeepo b (by omega) (by omega))
  have hold : ∀ b n, n ≠ 0 → own b = n → (if own b = 0 then (if w.heap.size ≤ b ∧ b < N then 2 + m else if b = g2 then 1000 else 0) else own b) = n := fun b n hn e => by rw [if_neg (by omega)]; exact e
  have hnone : ∀ b, w.heap.size ≤ b → own b = 0 := fun b hb => Decidable.byContradiction fun hn => by have := h.lt b hn; omega
  refine ⟨fun b => if own b = 0 then (if w.heap.size ≤ b ∧ b < N then 2 + m else if b = g2 then 1000 else 0) else own b, .slice (some ⟨g2, 0, none⟩) (m + 1) cap2, fun j => if j = m then vxn else vx j, fun j => if j = m then vwn else vw j, ⟨?_, hold p 1000 (by omega) h.op, ?_, ?_, ?_, ?_, ?_, by omega⟩, fun b e => ⟨?_, (h2K b e).2⟩, ?_⟩
  · refine wd_set1 (vs := vs) ?_
    rw [hgrow.block p (by omega) (fun e => hvp p e.symm rfl), hx.block p hpz]
    exact h.blk
  · rw [ptrs_open]
    exact ownsRow_block hown (fun b e => by simp [Value.ownBlock] at e; subst e; exact Below.heap_setCell _ _ _ _ hg2p)
  · intro b e
    simp [Value.ownBlock] at e
    subst e
    rcases hat with e | e
    · exact hold _ _ (by omega) (h.ors _ e)
    · rw [if_pos (hnone _ (by omega)), if_neg hg2s, if_pos rfl]
  · refine ⟨vt, vk, rs, hin'.blk, hold _ _ (by omega) hin'.fd, hin'.tp, fun b e => hold _ _ (by omega) (hin'.ftp b e), hin'.row, fun b e => hold _ _ (by omega) (hin'.frow b e), hin'.len, fun i hi => (hin'.lv i hi).mono (fun b e _ => hold _ _ (by omega) e), fun i hi => hold _ _ (by omega) (hin'.flv i hi), fun b e => ?_, hin'.tk, fun i hi b e => hold _ _ (by omega) (hin'.ftk i hi b e), hin'.dtk⟩
    rw [setCell_size]
    by_cases e0 : own b = 0
    · rw [if_pos e0] at e
      by_cases e1 : w.heap.size ≤ b ∧ b < N
      · omega
      · rw [if_neg e1] at e
        by_cases e2 : b = g2
        · rw [if_pos e2] at e; omega
        · rw [if_neg e2] at e; omega
    · have := h.lt b e0; omega
  · intro j hj
    by_cases e : j = m
    · subst e
      simp only [psOpen, if_true]
      have hs' := hs.keep (w' := w2.setCell ⟨p, 1, none⟩ (.slice (some ⟨g2, 0, none⟩) (j + 1) cap2)) (fun b e hl => by rw [Below.heap_setCell _ _ _ _ (by show b ≠ p; omega), hgrow.block b hl (fun e' => by have := hvz b e'.symm; omega)])
      exact hs'.mono (fun b e => by show (if own b = 0 then _ else _) = _; rw [if_pos (hnone b e.1), if_pos e])
    · simp only [psOpen, if_neg e]
      have hj' : j < m := by omega
      have hs := (h.side j hj').keep (w' := w2.setCell ⟨p, 1, none⟩ (.slice (some ⟨g2, 0, none⟩) (m + 1) cap2)) (fun b e' _ => hkeepo b (by omega) (by omega))
      exact ⟨hs.blk, hold _ _ (by omega) hs.gp, hs.ix, hs.iw, fun b e => hold _ _ (by omega) (hs.gx b e), fun b e => hold _ _ (by omega) (hs.gw b e), hs.ne, hs.len⟩
  · intro b e
    rw [setCell_size]
    by_cases e0 : own b = 0
    · rw [if_pos e0] at e
      by_cases e1 : w.heap.size ≤ b ∧ b < N
      · omega
      · rw [if_neg e1] at e
        by_cases e2 : b = g2
        · subst e2; exact ownsRow_lt hown rfl
        · rw [if_neg e2] at e; omega
    · have := h.lt b e0; omega
  · have e1 := h2K b e
    have := hk.size
    have hvb : b ≠ g2 := by
      rcases hat with e2 | e2
      · intro e3; subst e3; have := h.ors _ e2; omega
      · omega
    show (if own b = 0 then _ else _) = 0
    rw [if_pos e1.1, if_neg (by omega), if_neg hvb]
  · refine ⟨hgrow.os.trans (hx.os.trans hk.os), hgrow.tape.trans (hx.tape.trans hk.tape), hgrow.output.trans (hx.output.trans hk.output), by rw [setCell_size]; have := hk.size; omega, fun b e => ?_⟩
    have e1 := h2K b e
    have := hk.size
    rw [hkeep b (by omega) (fun e2 => by subst e2; have := h.op; omega) (fun e2 => by have := h.ors b e2; omega)]
    exact hk.block b e

set_option maxHeartbeats 2000000 in
set_option maxRecDepth 100000 in
theorem wcopied_any (p d m i : Nat) (b : Hd) (ps : Nat → Nat) (W : Wd) (w : World) (h : WdSt K w0 w p d m ps W) (hi : i < m) (hm : m < 4) (hc : Came b (W.sd i)) :
    Calls Try.prog 12 #[.pointer (some ⟨p, 0, none⟩), .int .i64 (i : Int)] w fun e w' => e = .returned (.tuple #[]) ∧ ∃ ps', WdSt K w0 w' p d (m + 1) ps' { W with sd := fun j => if j = m then (Sd.fresh (W.sd i).k (W.sd i).ones).all (W.sd i) else W.sd j } := by
  obtain ⟨own, vs, vx, vw, h, h2K, hk⟩ := h
  obtain ⟨gs, cs0, evs, hptr⟩ := h.ptr hi
  obtain ⟨c0, c1, c2, c3, c4, c5, c6, cz⟩ := blk7 h.blk
  have hsi := h.side i hi
  obtain ⟨d0, d1, d2, d3, d4, d5, dz⟩ := blk6 hsi.blk
  have hpz := lt_of_blk' h.blk
  have hsz := lt_of_blk' hsi.blk
  have HROW := hid h.row
  have HVP : Hid (∀ b, vs.ownBlock = some b → b ≠ p) := by
    intro b e e'
    subst e'
    rcases h.row.2 with ⟨e', _⟩ | ⟨g', c', cur, e', _, hh, _⟩
    · rw [e'] at e; simp [Value.ownBlock] at e
    · rw [e'] at e; simp [Value.ownBlock] at e; subst e
      rw [h.blk] at hh; cases hh
  have HVS := hid evs
  rw [evs] at c1 HROW
  have hs1 : (0 : Int) ≤ (i : Int) := by omega
  have hs2 : (i : Int) < (m : Int) := by omega
  obtain ⟨i0, hi0, hz0, hz1, hz2⟩ := info_parts Try.infoSideP
  have HH := hid h
  have H2 := hid h2K
  have HK := hid hk
  have HOW : Hid (∀ b, own b = 2 + i → b < w.heap.size) := fun b e => h.lt b (by omega)
  have HSI := hid hsi
  have HC := hid hc
  have HBP := hid h.blk
  have hgz : gs < w.heap.size := World.block_lt_of_cell? _ _ hptr
  generalize hpi : ps i = pi at *
  generalize hsd : W.sd i = sd at *
  clear h h2K hk hsi evs hc d0 d1 d2 d5
  go_enter Try.func12, Try.ntmps12
  go_wp2_with fail
  go_cut [5] from 13 to 22 (fun s5 wc => s5 = .pointer (some ⟨w.heap.size, 0, none⟩) ∧ wc.heap[w.heap.size]? = some (sdBlk (.slice none 0 0) (.slice none 0 0) 0 sd.k sd.ones false) ∧ Below w.heap.size w wc ∧ wc.heap.size = w.heap.size + 1)
  case first =>
    go_region
    all_goals
      go_wp2_with fail
      go_meet
      refine ⟨rfl, heap_alloc_new w _, ?_, by simp⟩
      have hb := (Below.refl w.heap.size w).alloc (Nat.le_refl _) (sdBlk (.slice none 0 0) (.slice none 0 0) 0 sd.k sd.ones false)
      exact ⟨hb.os, hb.tape, hb.output, hb.size, hb.block⟩
  case rest =>
  obtain ⟨rfl, hsb, hbc, hcz⟩ := hcut
  have HBC := hid hbc
  have hfs : SideAt (fun b => w.heap.size ≤ b ∧ b < wc.heap.size) wc w.heap.size (Sd.fresh sd.k sd.ones) (.slice none 0 0) (.slice none 0 0) := ⟨hsb, ⟨Nat.le_refl _, by omega⟩, Ints.nil _, Ints.nil _, fun b e => by simp [Value.ownBlock] at e, fun b e => by simp [Value.ownBlock] at e, fun b e => by simp [Value.ownBlock] at e, rfl⟩
  have HAL := hid (allf_any w.heap.size pi w.heap.size (fun b => own b = 2 + i) b sd _ _ _ _ wc (by omega) hfs (HSI.out.below hbc) HOW.out HC.out)
  clear hsb hbc hcz hfs c0 c1 c2 c3 c4 c5 c6 cz d3 d4 dz hptr
  go_wp2_with fail
  refine HAL.out.mono ?_
  rintro e w3 ⟨rfl, ⟨vxn, vwn, hs3⟩, hb3⟩
  have HB3 := hid (HBC.out.trans hb3)
  have HS3 := hid hs3
  have hbp3 := (HB3.out.block p hpz).trans HBP.out
  have HBP3 := hid hbp3
  obtain ⟨c0, c1, c2, c3, c4, c5, c6, cz⟩ := blk7 hbp3
  rw [HVS.out] at c1
  have HR3 := hid (ownsRow_below HROW.out HB3.out (fun g e => by simp [Value.ownBlock] at e; omega))
  have hz3 := HB3.out.size
  clear hs3 hb3 hbp3 HAL
  generalize hw9 : w.heap.size = z0 at *
  have HW9 := hid hw9
  clear hw9
  go_wp2_with (first | (at_builtin; refine wpList_append_lies _ rfl (.tmp 30) (.tmp 32) 29 rfl 0 90 i0 (.pointer none) 1 8 Try.underlying29 hi0 hz0 hz1 hz2 rfl (by decide) (.slice (some ⟨gs, 0, none⟩) m cs0) m (ptrs ps m) rfl (HR3.out.alloc _) ⟨w3.heap.size, 0, none⟩ 1 1 [.pointer (some ⟨z0, 0, none⟩)] rfl rfl (one_new _ _ _) (one_ptr _) (by decide) (by unfold maxLen; omega) (by omega) (Nat.zero_le _) (w3.heap.size + 1) (by simp) ?_; intro g2 cap2 w4 hown4 hgrow4 hat4 hlt4; have hq4 : w4.heap[p]? = _ := (hgrow4.block p (by simp; omega) (fun e => HVP.out p (by rw [HVS.out]; exact e.symm) rfl)).trans ((Below.heap_alloc w3 _ p (by omega)).trans HBP3.out); obtain ⟨q0, q1, q2, q3, q4, q5, q6, qz⟩ := blk7 hq4; have HO4 := hid hown4; have HG4 := hid hgrow4; have HA4 := hid hat4; clear hq4 hown4 hgrow4 hat4))
  go_end0
  refine ⟨rfl, psOpen ps m z0, ?_⟩
  have hg4 := HG4.out
  have ha4 := HA4.out
  rw [← HVS.out] at hg4 ha4
  have hb4 : Below w.heap.size w (w3.alloc (.cells #[.pointer (some ⟨z0, 0, none⟩)] 90)) := by rw [HW9.out]; exact HB3.out.alloc hz3 _
  have hfin := HH.out.pushS (N := w3.heap.size) hm H2.out HK.out hb4 (s0 := z0) (sn := (Sd.fresh sd.k sd.ones).all sd) (vxn := vxn) (vwn := vwn) (by rw [HW9.out]; exact HS3.out.below ((Below.refl _ _).alloc (Nat.le_refl _) _)) (by simp) (by rw [HW9.out]; exact hz3) HO4.out hg4 (ha4.imp id (fun e => by omega))
  exact hfin

end Go.Proofs.Ytklicjbpjigfdab

/- DERIVED. The walk of Back. -/
namespace Go.Proofs.Ytklicjbpjigfdab
open Go.RowKit
attribute [local go_sem ↓] Go.wp_at_zero Go.wp_at_succ

theorem mergeL_left : ∀ T : List Lvl, mergeL [] T = T
  | [] => rfl
  | t :: T => by rw [mergeL, mergeL_left T, jn_nil_left]
theorem mergeL_none {T : List Lvl} (h : 1 ≤ T.length) : mergeL [Lvl.none] T = T := by
  cases T with
  | nil => simp at h
  | cons t T =>
    rw [mergeL, mergeL_left]
    have e : Lvl.none.items = [] := rfl
    have e2 : Lvl.none.times = 0 := rfl
    rw [e, e2, jn_nil_left, Nat.zero_add]

/-- The world with one sketch more, just like sketch j. -/
def Wd.twinned (W : Wd) (j : Nat) : Wd := { W with D := { W.D with sks := W.D.sks ++ [⟨(W.D.sks.getD j Hd.none).sk, false, []⟩] }, sd := fun a => if a = 3 then (Sd.fresh (W.sd j).k (W.sd j).ones).all (W.sd j) else W.sd a }

theorem twinned_at {W : Wd} {a : Nat} {x : Hd} (hl : W.D.sks.length = 3) : (W.D.sks ++ [x]).getD a Hd.none = if a = 3 then x else if a < 3 then W.D.sks.getD a Hd.none else Hd.none := by
  by_cases e : a = 3
  · subst e; rw [if_pos rfl]; simp [List.getD, ← hl]
  · rw [if_neg e]
    by_cases e2 : a < 3
    · rw [if_pos e2]; simp [List.getD, List.getElem?_append, hl, e2]
    · rw [if_neg e2]
      simp only [List.getD]
      rw [List.getElem?_eq_none (by simp; omega)]
      rfl

theorem twinned_inv {W : Wd} {j : Nat} (h : MInv W) (hk : Kp (W.D.sks.getD j Hd.none) (W.sd j)) (hj : j < 3) : MInvM 4 (W.twinned j) := by
  have hc := h.came j hj
  have hok := hc.inok.ok
  have h5 := minv_opened (o := (W.sd j).ones) h hok.k1 hok.k2
  have hat : ∀ a, (W.D.sks ++ [Hd.begun (W.D.sks.getD j Hd.none).sk.k]).getD a Hd.none = _ := fun a => twinned_at h.len
  have e3 : (W.D.sks ++ [Hd.begun (W.D.sks.getD j Hd.none).sk.k]).getD 3 Hd.none = Hd.begun (W.D.sks.getD j Hd.none).sk.k := by rw [hat, if_pos rfl]
  have ej : (W.D.sks ++ [Hd.begun (W.D.sks.getD j Hd.none).sk.k]).getD j Hd.none = W.D.sks.getD j Hd.none := by rw [hat, if_neg (by omega), if_pos hj]
  have ek : mgK (Hd.begun (W.D.sks.getD j Hd.none).sk.k) (W.D.sks.getD j Hd.none) = (W.D.sks.getD j Hd.none).sk.k := by
    unfold mgK mergeK
    exact if_neg (Nat.lt_irrefl _)
  have eL : mgL (Hd.begun (W.D.sks.getD j Hd.none).sk.k) (W.D.sks.getD j Hd.none) = (W.D.sks.getD j Hd.none).sk.lv := mergeL_none hok.len1
  have hw0 : wsum (Hd.begun (W.D.sks.getD j Hd.none).sk.k).sk.lv = 0 := rfl
  have hs : settle (W.D.sks.getD j Hd.none).sk.k [] 0 (W.D.sks.getD j Hd.none).sk.lv = some ((W.D.sks.getD j Hd.none).sk.lv, ([] : List Bool).length) := settle_done (by unfold toThinL; rw [if_pos hc.inok.set])
  have h6 := minv_joined (i := 3) (j := j) (cs := []) (L' := (W.D.sks.getD j Hd.none).sk.lv) (a := W.at_) h5 (by omega) (by omega) (by
    show wsum ((W.D.sks ++ [Hd.begun (W.D.sks.getD j Hd.none).sk.k]).getD 3 Hd.none).sk.lv + wsum ((W.D.sks ++ [Hd.begun (W.D.sks.getD j Hd.none).sk.k]).getD j Hd.none).sk.lv ≤ 268435456
    rw [e3, ej, hw0]
    have := hok.cnt
    omega) h.at_ (by
    show settle (mgK ((W.D.sks ++ [Hd.begun (W.D.sks.getD j Hd.none).sk.k]).getD 3 Hd.none) ((W.D.sks ++ [Hd.begun (W.D.sks.getD j Hd.none).sk.k]).getD j Hd.none)) [] 0 (mgL ((W.D.sks ++ [Hd.begun (W.D.sks.getD j Hd.none).sk.k]).getD 3 Hd.none) ((W.D.sks ++ [Hd.begun (W.D.sks.getD j Hd.none).sk.k]).getD j Hd.none)) = _
    rw [e3, ej, ek, eL]
    exact hs) (by simp)
  refine Eq.mp (congrArg (MInvM 4) ?_) h6
  have ht := h.tape
  have hlo : mgLo (Hd.begun (W.D.sks.getD j Hd.none).sk.k) (W.D.sks.getD j Hd.none) = (W.D.sks.getD j Hd.none).sk.lo ∧ mgHi (Hd.begun (W.D.sks.getD j Hd.none).sk.k) (W.D.sks.getD j Hd.none) = (W.D.sks.getD j Hd.none).sk.hi := by
    unfold mgLo mgHi mergeLo mergeHi
    by_cases hw : 0 < wsum (W.D.sks.getD j Hd.none).sk.lv
    · rw [if_pos hw, if_pos hw, hw0]
      unfold widenLo widenHi
      exact ⟨if_pos (.inl rfl), if_pos (.inl rfl)⟩
    · rw [if_neg hw, if_neg hw]
      have := hk.zero (by omega)
      exact ⟨this.1.symm, this.2.symm⟩
  have hset : ∀ x : Hd, (W.D.sks ++ [Hd.begun (W.D.sks.getD j Hd.none).sk.k]).set 3 x = W.D.sks ++ [x] := by
    intro x
    rw [List.set_append_right _ _ (by rw [h.len]; exact Nat.le_refl _), h.len]
    rfl
  have hsd : (fun a => if a = 3 then ((if (3 : Nat) = 3 then { Sd.begun (W.D.sks.getD j Hd.none).sk.k with ones := (W.sd j).ones } else W.sd 3) : Sd).all (if j = 3 then { Sd.begun (W.D.sks.getD j Hd.none).sk.k with ones := (W.sd j).ones } else W.sd j) else (if a = 3 then { Sd.begun (W.D.sks.getD j Hd.none).sk.k with ones := (W.sd j).ones } else W.sd a)) = (fun a => if a = 3 then (Sd.fresh (W.sd j).k (W.sd j).ones).all (W.sd j) else W.sd a) := by
    funext a
    by_cases e : a = 3
    · rw [if_pos e, if_pos e, if_pos rfl, if_neg (by omega), hc.k]; rfl
    · rw [if_neg e, if_neg e, if_neg e]
  show Wd.mk ⟨W.D.room, [], (W.D.sks ++ [Hd.begun (W.D.sks.getD j Hd.none).sk.k]).set 3 _⟩ _ W.coins W.at_ (W.used + 0) W.most W.short = Wd.mk ⟨W.D.room, W.D.tape, _⟩ _ W.coins W.at_ W.used W.most W.short
  rw [hset, ht, Nat.add_zero]
  congr 1
  · congr 1
    show W.D.sks ++ [_] = W.D.sks ++ [_]
    congr 1
    show [(⟨⟨mgK ((W.D.sks ++ [Hd.begun (W.D.sks.getD j Hd.none).sk.k]).getD 3 Hd.none) ((W.D.sks ++ [Hd.begun (W.D.sks.getD j Hd.none).sk.k]).getD j Hd.none), _, mgLo ((W.D.sks ++ [Hd.begun (W.D.sks.getD j Hd.none).sk.k]).getD 3 Hd.none) ((W.D.sks ++ [Hd.begun (W.D.sks.getD j Hd.none).sk.k]).getD j Hd.none), mgHi ((W.D.sks ++ [Hd.begun (W.D.sks.getD j Hd.none).sk.k]).getD 3 Hd.none) ((W.D.sks ++ [Hd.begun (W.D.sks.getD j Hd.none).sk.k]).getD j Hd.none)⟩, ((W.D.sks ++ [Hd.begun (W.D.sks.getD j Hd.none).sk.k]).getD 3 Hd.none).sealed, ((W.D.sks ++ [Hd.begun (W.D.sks.getD j Hd.none).sk.k]).getD 3 Hd.none).taken⟩ : Hd)] = _
    rw [e3, ej, ek, hlo.1, hlo.2]
    rfl
theorem twinned_twin {W : Wd} {j : Nat} (h : MInv W) (hj : j < 3) : Twin j 3 (W.twinned j) := by
  show ((W.D.sks ++ [_]).getD 3 Hd.none).sk = ((W.D.sks ++ [_]).getD j Hd.none).sk
  rw [twinned_at h.len, twinned_at h.len, if_pos rfl, if_neg (by omega), if_pos hj]

set_option maxHeartbeats 2000000 in
set_option maxRecDepth 100000 in
theorem back_walk (k : Int) (coins : ByteArray) (ao bo : Option Addr) (n cap m bcap : Nat) (ss ms : List St) (i q : Int) (w : World) (hk1 : -9223372036854775808 ≤ k) (hk2 : k ≤ 9223372036854775807) (hcs : coins.size ≤ 140737488355328) (hl : ss.length = n) (hr : n * 32 ≤ 140737488351232) (hrg : ∀ s ∈ ss, InRange s.a ∧ InRange s.b ∧ InRange s.c) (hc : StepsAt w ao n ss) (hl2 : ms.length = m) (hr2 : m * 32 ≤ 140737488351232) (hrg2 : ∀ s ∈ ms, InRange s.a ∧ InRange s.b ∧ InRange s.c) (hc2 : StepsAt w bo m ms) (hi : InRange i) :
    Calls Try.prog 3 #[.int .i64 k, .string coins, .slice ao n cap, .int .i64 i, .slice bo m bcap, .int .i64 q] w fun e w' => e = .returned (.bool true) ∧ Below w.heap.size w w' := by
  have HPL := hid (played_any k coins ao n cap ss w hk1 hk2 hcs hl hr hrg hc)
  have HP1 := hid (fun (w' : World) => pick_any i 3 w' hi.1 hi.2 (by omega) (by omega))
  have hp3 := pickN_lt i (n := 3) (by omega)
  have HRB : Hid (∀ s ∈ ss, InRange s.b) := fun s hs => (hrg s hs).2.1
  have HRG2 := hid hrg2
  have HC2 := hid hc2
  have HL2 := hid hl2
  generalize pickN i 3 = j at *
  clear hl hrg hc hi hrg2 hc2 hl2
  go_enter Try.func3, Try.ntmps3
  go_wp2_with fail
  refine HPL.out.mono ?_
  rintro e w1 ⟨p, d, ps, W, rfl, hst, hm, hpl⟩
  have htv : TInv W := hpl.kp (first_minv k coins hcs) (first_tinv k coins) HRB.out
  have hroom : W.D.room = 4 := hpl.room.trans (first_len k coins 3).2
  have hlen := hm.len
  have hkp := htv j hp3
  have hcm := hm.came j hp3
  have hsb := sound_of hcm (hm.roomy j hp3) hkp
  have hft := fits_of hcm hkp
  have hjl : j < W.D.sks.length := by rw [hlen]; exact hp3
  have HST := hid hst
  obtain ⟨own, vs, vx, vw, hw, hK2, hKe⟩ := hst
  have HEN := hid (encode_any d W.D j w1 hw.desk hjl hcm.inok.ok)
  have hlt := writeB_lt (W.D.sks.getD j Hd.none).sk
  have hsz : (writeB (W.D.sks.getD j Hd.none).sk).length ≤ 1099511627776 := by
    have h1 := nsum_le (W.D.sks.getD j Hd.none).sk.lv
    have h2 := hcm.inok.ok.cnt
    have h3 := hcm.inok.ok.len
    rw [writeB_length, bodyB_length]
    split <;> omega
  have hbt := bytesOf_txt hlt
  have HDE := hid (fun (w' : World) (hb : Below w1.heap.size w1 w') => decode_ok d W.D (txt (writeB (W.D.sks.getD j Hd.none).sk)) w' (hw.desk.below hb) (by rw [← bytesOf_length, hbt]; omega) (by rw [hbt]; exact is_text hft hsb) (by rw [hlen, hroom]; omega) (by rw [hroom]; omega))
  rw [hbt, told_write hft, hlen] at HDE
  have HW := hid (⟨hw, hK2, hKe⟩ : WdAt own w1 p d 3 W ps vs vx vw ∧ (∀ b, b < w.heap.size → own b = 0 ∧ b < w.heap.size) ∧ Keeps (fun b => b < w.heap.size) w w1)
  have hblk := hw.blk
  obtain ⟨c0, _⟩ := blk7 hblk
  have HBK := hid hblk
  have HM := hid hm
  have HKP := hid hkp
  generalize txt (writeB (W.D.sks.getD j Hd.none).sk) = T at *
  clear hw hm hpl htv hroom hlen hkp hcm hsb hft hK2 hKe hlt hbt hsz HPL
  go_wp2_with (first | (go_at_call 9; refine (HP1.out _).mono ?_; rintro e w' ⟨rfl, hw⟩; obtain rfl := hw.symm))
  refine HEN.out.mono ?_
  rintro e w2 ⟨rfl, hb2⟩
  have HB2 := hid hb2
  have c2 := (hb2.cell (p := ⟨p, 0, none⟩) (lt_of_blk' HBK.out)).trans c0
  have HD2 := hid (HDE.out w2 hb2)
  clear hb2 HEN HDE c0
  go_wp2_with fail
  refine HD2.out.mono ?_
  rintro e w3 ⟨rfl, hst3⟩
  have hS3 := (HW.out.1.below HB2.out).deskStep HW.out.2.1 (HW.out.2.2.below HB2.out (fun b e => e)) hst3
  have HC3 := hid (wcopied_any p d 3 j (W.D.sks.getD j Hd.none) ps _ w3 hS3 (by omega) (by omega) (HM.out.came j hp3))
  clear hst3 hS3 HD2 c2
  go_wp2_with fail
  refine HC3.out.mono ?_
  rintro e w4 ⟨rfl, ps4, hS4⟩
  have HS4 : Hid (WdSt (fun b => b < w.heap.size) w w4 p d 4 ps4 (W.twinned j)) := hS4
  have HM4 := hid (twinned_inv HM.out HKP.out hp3)
  have HT4 := hid (twinned_twin HM.out hp3)
  have HAL := hid (fun (V : Wd) (w' : World) (hs : WdSt (fun b => b < w.heap.size) w w' p d 4 ps4 V) (hv : MInvM 4 V) (ht : Twin j 3 V) => alike_any p d j 3 q ps4 V w' hs (by omega) (by omega) hv.len (hv.came j (by omega)) (hv.roomy j (by omega)) (hv.came 3 (by omega)) (hv.roomy 3 (by omega)) ht)
  have HKE := hid (fun (V : Wd) (w' : World) (hs : WdSt (fun b => b < w.heap.size) w w' p d 4 ps4 V) (hv : MInvM 4 V) => kept_any p d 3 ps4 V w' hs (by omega) hv.len (hv.came 3 (by omega)))
  have HWI := hid (fun (V : Wd) (w' : World) (hs : WdSt (fun b => b < w.heap.size) w w' p d 4 ps4 V) (hv : MInvM 4 V) => within_gen p d 3 q ps4 V w' hs (by omega) hv.len (hv.came 3 (by omega)) (hv.roomy 3 (by omega)) (hv.near 3 (by omega) q))
  clear hS4 HC3 HW HB2 HBK
  go_wp2_with fail
  refine (HAL.out _ _ HS4.out HM4.out HT4.out).mono ?_
  rintro e w5 ⟨rfl, hb5⟩
  have HS5 := hid (HS4.out.below hb5)
  clear hb5 HS4
  go_wp2_with fail
  go_loopw [18, 19] (fun so si wr => ∃ (t : Nat) (V : Wd), t ≤ m ∧ so = .bool true ∧ si = .int .i64 t ∧ Hid (MInvM 4 V) ∧ Hid (Twin j 3 V) ∧ Hid (WdSt (fun b => b < w.heap.size) w wr p d 4 ps4 V)) (fun _ si _ => m - (intOf si).toNat)
  case atStart => exact ⟨0, _, Nat.zero_le _, rfl, rfl, HM4, HT4, HS5⟩
  case round =>
    obtain ⟨t, V, ht, rfl, rfl, Hv, Ht, Hs⟩ := hrel
    clear HS5 HM4 HT4
    by_cases htl : t < m
    · have htl' : t < ms.length := by rw [HL2.out]; exact htl
      have g1' : decide ((t : Int) < (m : Int)) = true := decide_eq_true (by omega)
      obtain ⟨bs, off, rfl, hbz, q0, q1, q2, q3⟩ := HC2.out t htl
      have hke := Hs.out.keeps
      have hbk : ∀ o, wr.cell? ⟨bs, o, none⟩ = w.cell? ⟨bs, o, none⟩ := fun o => World.cell?_of_block (hke.block bs hbz)
      rw [← hbk] at q0 q1 q2 q3
      have hmem : ms.getD t St.zero ∈ ms := by simp [List.getD, htl']
      have hg := HRG2.out _ hmem
      generalize ms.getD t St.zero = st at *
      have HBO := hid (both_any p d j st.kd st.a st.b st.c ps4 V wr Hs.out hp3 Hv.out Ht.out hg.2.1 hg.2.2)
      clear hmem hg hbk hke
      go_wp2_with fail
      refine HBO.out.mono ?_
      rintro e w6 ⟨rfl, V6, hs6, hv6, ht6⟩
      have HS6 := hid hs6
      have HV6 := hid hv6
      have HT6 := hid ht6
      clear hs6 hv6 ht6 HBO q0 q1 q2 q3
      go_wp2_with fail
      refine (HAL.out V6 _ HS6.out HV6.out HT6.out).mono ?_
      rintro e w7 ⟨rfl, hb7⟩
      have HS7 := hid (HS6.out.below hb7)
      clear hb7 HS6
      go_wp2_with fail
      refine (HKE.out V6 _ HS7.out HV6.out).mono ?_
      rintro e w8 ⟨rfl, hb8⟩
      have HS8 := hid (HS7.out.below hb8)
      clear hb8 HS7
      go_wp2_with fail
      refine (HWI.out V6 _ HS8.out HV6.out).mono ?_
      rintro e w9 ⟨rfl, hb9⟩
      have HS9 := hid (HS8.out.below hb9)
      clear hb9 HS8
      go_wp2_with fail
      go_roundw
      case rel => exact ⟨t + 1, V6, by omega, rfl, by go_num, HV6, HT6, HS9⟩
      case measure => simp [intOf]; omega
    · have g1' : decide ((t : Int) < (m : Int)) = false := decide_eq_false (by omega)
      go_wp2_with fail
      refine (HKE.out V _ Hs.out Hv.out).mono ?_
      rintro e w8 ⟨rfl, hb8⟩
      have HS8 := hid (Hs.out.below hb8)
      clear hb8
      go_wp2_with fail
      refine (HWI.out V _ HS8.out Hv.out).mono ?_
      rintro e w9 ⟨rfl, hb9⟩
      have HS9 := hid (HS8.out.below hb9)
      clear hb9 HS8
      go_wp2_with fail
      go_ret
      have hk := HS9.out.keeps
      exact ⟨rfl, ⟨hk.os, hk.tape, hk.output, hk.size, fun b hb => hk.block b hb⟩⟩

end Go.Proofs.Ytklicjbpjigfdab
