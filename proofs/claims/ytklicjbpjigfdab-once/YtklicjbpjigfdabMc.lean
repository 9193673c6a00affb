/- DERIVED. The walk of the statement's own all: all of a side comes into another, or into itself. -/
import Derived.Test.YtklicjbpjigfdabMb
import Derived.Test.YtklicjbpjigfdabNb
import Derived.Deep.RegionWith
import Derived.Deep.DrawnRows
import Derived.Test.YtklicjbpjigfdabSpaceQ
namespace Go.Proofs.Ytklicjbpjigfdab
open Go.RowKit
attribute [local go_sem ↓] Go.wp_at_zero Go.wp_at_succ
variable {K : Nat → Prop} {w0 : World} {nw : Nat}

/-- Side i has turned. -/
def Wd.side (W : Wd) (i : Nat) (s : Sd) : Wd := { W with sd := fun a => if a = i then s else W.sd a }
theorem Wd.side_same (W : Wd) (i : Nat) : W.side i (W.sd i) = W := by
  unfold Wd.side
  have : (fun a => if a = i then W.sd i else W.sd a) = W.sd := by
    funext a; split
    · rename_i e; rw [e]
    · rfl
  rw [this]
theorem Wd.side_side (W : Wd) (i : Nat) (s t : Sd) : (W.side i s).side i t = W.side i t := by
  unfold Wd.side
  simp only [Wd.mk.injEq, and_true, true_and]
  funext a
  by_cases e : a = i <;> simp [e]
theorem Wd.side_at (W : Wd) (i : Nat) (s : Sd) : (W.side i s).sd i = s := by simp [Wd.side]

theorem WdSt.setOnes {w : World} {p d m i : Nat} {W : Wd} {ps : Nat → Nat} (h : WdSt K w0 w p d m ps W) (hi : i < m) (o : Bool) : WdSt K w0 (w.setCell ⟨ps i, 4, none⟩ (.bool o)) p d m ps (W.side i { W.sd i with ones := o }) := by
  obtain ⟨own, vs, vx, vw, h, h2K, hk⟩ := h
  exact sd_set4 h hi h2K hk o
theorem WdSt.setK {w : World} {p d m i : Nat} {W : Wd} {ps : Nat → Nat} (h : WdSt K w0 w p d m ps W) (hi : i < m) (k : Nat) : WdSt K w0 (w.setCell ⟨ps i, 3, none⟩ (.int .i64 (k : Int))) p d m ps (W.side i { W.sd i with k := k }) := by
  obtain ⟨own, vs, vx, vw, h, h2K, hk⟩ := h
  have hs := h.side i hi
  have hf : Fr (fun b => own b = 2 + i) w (w.setCell ⟨ps i, 3, none⟩ (.int .i64 (k : Int))) := (Fr.refl _ w).set (fun _ => hs.gp) _
  have hkI : IntsKept w (w.setCell ⟨ps i, 3, none⟩ (.int .i64 (k : Int))) := IntsKept.set hs.blk (by decide)
  refine h.sideStep hi (vx' := vx i) (vw' := vw i) ⟨?_, ⟨.inl hs.gp, by rw [setCell_size]; exact lt_of_blk' hs.blk⟩, hs.ix.kept hkI, hs.iw.kept hkI, fun b e => ⟨.inl (hs.gx b e), by rw [setCell_size]; exact ownsRow_lt hs.ix e⟩, fun b e => ⟨.inl (hs.gw b e), by rw [setCell_size]; exact ownsRow_lt hs.iw e⟩, hs.ne, hs.len⟩ hf h2K hk
  have := blk_set (i := 3) (.int .i64 (k : Int)) hs.blk
  simpa using this

theorem wput_any (p d i wt : Nat) (x : Int) (ps : Nat → Nat) (W : Wd) (w : World) (h : WdSt K w0 w p d nw ps W) (hi : i < nw) (hl : (W.sd i).xs.length ≤ 1099511627776) (hn : (W.sd i).n + wt ≤ 1099511627776) (hws : ∀ j, (W.sd i).ws.getD j 0 ≤ 1099511627776) :
    Calls Try.prog 70 #[.pointer (some ⟨ps i, 0, none⟩), .int .i64 x, .int .i64 (wt : Int)] w fun e w' => e = .returned (.tuple #[]) ∧ WdSt K w0 w' p d nw ps (W.side i ((W.sd i).put x wt)) := by
  obtain ⟨own, vs, vx, vw, h, h2K, hk⟩ := h
  refine (put_any (ps i) (W.sd i) (vx i) (vw i) x wt w (h.side i hi) hl hn hws (fun b hb => h.lt b (by omega))).mono ?_
  rintro e w3 ⟨rfl, vx3, vw3, hs3, hf3⟩
  exact ⟨rfl, h.sideStep hi hs3 hf3 h2K hk⟩

/-- A list of the call's own is nobody's. -/
theorem WdAt.local {own : Nat → Nat} {w w2 : World} {p d m : Nat} {W : Wd} {ps : Nat → Nat} {vs : Value} {vx vw : Nat → Value} (h : WdAt own w p d m W ps vs vx vw) (h2K : ∀ b, K b → own b = 0 ∧ b < w0.heap.size) (hk : Keeps K w0 w) (hb : Below w.heap.size w w2) (hg : w.heap.size < w2.heap.size) : WdSt (fun b => K b ∨ b = w.heap.size) w2 w2 p d m ps W := by
  refine ⟨own, vs, vx, vw, h.below hb, fun b e => ?_, Keeps.refl _ _⟩
  rcases e with e | rfl
  · exact ⟨(h2K b e).1, Nat.lt_of_lt_of_le (h2K b e).2 (Nat.le_trans hk.size hb.size)⟩
  · exact ⟨Decidable.byContradiction fun hn => by have := h.lt _ hn; omega, hg⟩
theorem WdSt.back {w2 w' : World} {g p d m : Nat} {W : Wd} {ps : Nat → Nat} (h : WdSt (fun b => K b ∨ b = g) w2 w' p d m ps W) (hk : Keeps K w0 w2) (hK : ∀ b, K b → b < w0.heap.size) : WdSt K w0 w' p d m ps W := by
  obtain ⟨own, vs, vx, vw, h, h2K, hk'⟩ := h
  exact ⟨own, vs, vx, vw, h, fun b e => ⟨(h2K b (.inl e)).1, hK b e⟩, ⟨hk'.os.trans hk.os, hk'.tape.trans hk.tape, hk'.output.trans hk.output, Nat.le_trans hk.size hk'.size, fun b e => (hk'.block b (.inl e)).trans (hk.block b e)⟩⟩

set_option maxHeartbeats 2000000 in
set_option maxRecDepth 100000 in
theorem all_any (p d i j : Nat) (a b : Hd) (ps : Nat → Nat) (W : Wd) (w : World) (h : WdSt K w0 w p d nw ps W) (hi : i < nw) (hj : j < nw) (ci : Came a (W.sd i)) (cj : Came b (W.sd j)) :
    Calls Try.prog 36 #[.pointer (some ⟨ps i, 0, none⟩), .pointer (some ⟨ps j, 0, none⟩)] w fun e w' => e = .returned (.tuple #[]) ∧ WdSt K w0 w' p d nw ps (W.side i ((W.sd i).all (W.sd j))) := by
  obtain ⟨own, vs, vx, vw, h, h2K, hk⟩ := h
  have hsj := h.side j hj
  obtain ⟨c0, c1, c2, c3, c4, c5, cz⟩ := blk6 hsj.blk
  have hnl : (nats (W.sd j).ws).length = (W.sd j).xs.length := by simp [nats, hsj.len]
  obtain ⟨ao, cc, ex, hcl, hcm, hno, hso⟩ := hsj.ix.form
  obtain ⟨bo, cb, ew, hcl2, hcm2, hno2, hso2⟩ := hsj.iw.form
  rw [ex] at c0
  rw [ew, hnl] at c1
  have HIW := hid hsj.iw
  rw [ew, hnl] at HIW
  have hxb : (W.sd j).xs.length ≤ 1099511627 := cj.inok.xl
  have HH := hid h
  have H2 := hid h2K
  have HK := hid hk
  have hjz := lt_of_blk' hsj.blk
  obtain ⟨i0, hi0, hz0, hz1, hz2⟩ := info_parts Try.infoInt
  generalize hn : (W.sd j).xs.length = n at *
  have HN := hid hn
  have HNL := hid hnl
  have CI := hid ci
  have CJ := hid cj
  clear h h2K hk hsj ex ew hno hso hno2 hso2 hn hnl ci cj c2 c3 c4 c5
  go_enter Try.func36, Try.ntmps36
  go_wp2_with (first | (at_make; refine wpList_make_full _ rfl _ _ 91 rfl w.heap.size 3 i0 (.int .i64 0) 1 Try.underlying91 hi0 hz0 hz1 _ _ _ _ n rfl rfl (by rfl) (by rfl) (by rw [hz2]; omega) (by unfold maxLen; omega) (Nat.le_refl _) ?_; intro w1 hown1 hgrow1; have hb1 : Below w.heap.size w w1 := (Below.refl _ _).grown hgrow1 (Nat.le_refl _) (fun k h => by cases h); have p1 := cell_later hb1 c1; have HB1 := hid hb1; obtain ⟨w2, hrun, hown2, hgrow2⟩ := run_copy_ints w1 i0 hi0 hz1 hown1 (HIW.out.below hb1) HNL.out.symm; have HO2 := hid hown2; have HG2 := hid hgrow2; clear hown1 hgrow1 hb1 hown2 hgrow2))
  have hb2 : Below w.heap.size w w2 := HB1.out.grown HG2.out HB1.out.size (fun k h => by cases h; exact Nat.le_refl _)
  have hI2 : Ints w2 (.slice (some ⟨w.heap.size, 0, none⟩) n n) (nats (W.sd j).ws) := Ints.of HO2.out
  have hgz : w.heap.size < w2.heap.size := ownsRow_lt hI2 rfl
  have hst2 := HH.out.local H2.out HK.out hb2 hgz
  have HKB : Hid (Keeps K w0 w2) := HK.out.below hb2 (fun b e => (H2.out b e).2)
  have HKL : Hid (∀ b, K b → b < w0.heap.size) := fun b e => (H2.out b e).2
  have HI2 := hid hI2
  have HST2 : Hid (WdSt (fun b => K b ∨ b = w.heap.size) w2 w2 p d nw ps (W.side i (putN (W.sd i) (W.sd j).xs (W.sd j).ws 0))) := by
    show WdSt _ _ _ _ _ _ _ (W.side i (W.sd i))
    rw [Wd.side_same]; exact hst2
  have HPF := hid (fun r hr => putN_facts CI.out.len CI.out.pos CJ.out.len CJ.out.pos r (by rw [HN.out]; exact hr))
  generalize hg0 : w.heap.size = g0 at *
  clear hb2 hI2 hst2 p1 c0 c1 HB1 HO2 HG2 hrun HH H2 HK HIW cz hjz hg0
  go_loopw [6] (fun si wr => ∃ r : Nat, si = .int .i64 r ∧ r ≤ n ∧ Hid (WdSt (fun b => K b ∨ b = g0) w2 wr p d nw ps (W.side i (putN (W.sd i) (W.sd j).xs (W.sd j).ws r)))) (fun si _ => n - (intOf si).toNat)
  case atStart => exact ⟨0, rfl, Nat.zero_le _, HST2⟩
  case round =>
    obtain ⟨r, rfl, hrn, Hst⟩ := hrel
    clear HST2
    obtain ⟨own1, vs1, vx1, vw1, h1, h2K1, hk1⟩ := Hst.out
    have hsj := h1.side j hj
    have hsi := h1.side i hi
    rw [Wd.side_at] at hsi
    have hxj : ((W.side i (putN (W.sd i) (W.sd j).xs (W.sd j).ws r)).sd j).xs = (W.sd j).xs := by
      show (if j = i then putN (W.sd i) (W.sd j).xs (W.sd j).ws r else W.sd j).xs = _
      split
      · rename_i e; rw [← e]; exact putN_self _ _ r (by rw [HN.out]; exact hrn)
      · rfl
    have hrest := putN_rest (W.sd i) (W.sd j).xs (W.sd j).ws r
    have hkj : ((W.side i (putN (W.sd i) (W.sd j).xs (W.sd j).ws r)).sd j).k = (W.sd j).k ∧ ((W.side i (putN (W.sd i) (W.sd j).xs (W.sd j).ws r)).sd j).ones = (W.sd j).ones := by
      show (if j = i then putN (W.sd i) (W.sd j).xs (W.sd j).ws r else W.sd j).k = _ ∧ (if j = i then putN (W.sd i) (W.sd j).xs (W.sd j).ws r else W.sd j).ones = _
      split
      · rename_i e; rw [hrest.1, hrest.2.1, e]; exact ⟨rfl, rfl⟩
      · exact ⟨rfl, rfl⟩
    obtain ⟨c0, c1, c2, c3, c4, c5, cz⟩ := blk6 hsj.blk
    obtain ⟨d0, d1, d2, d3, d4, d5, dz⟩ := blk6 hsi.blk
    rw [hrest.1] at d3
    rw [hrest.2.1] at d4
    rw [hkj.1] at c3
    rw [hkj.2] at c4
    have hix := hsj.ix
    rw [hxj] at hix
    obtain ⟨ao1, cc1, ex, hcl1, hcm1, hno, hso⟩ := hix.form
    rw [ex, HN.out] at c0
    have hI3 : Ints wr (.slice (some ⟨g0, 0, none⟩) n n) (nats (W.sd j).ws) := HI2.out.block (fun b hb => by simp [Value.ownBlock] at hb; subst hb; exact hk1.block _ (.inr rfl))
    by_cases hlt : r < n
    · obtain ⟨gc, rfl⟩ : ∃ g, ao1 = some ⟨g, 0, none⟩ := by
        cases ao1 with
        | none => have h9 := (hno rfl).1; have h8 := HN.out; rw [h9] at h8; simp at h8; omega
        | some a => obtain ⟨g, rfl, _⟩ := hso a rfl; exact ⟨g, rfl⟩
      obtain ⟨gc', e1, hgc, hcc⟩ := hso _ rfl
      cases e1
      have hcell := hcc r (by rw [HN.out]; exact hlt)
      obtain ⟨ao2, cc2, ex2, _, _, _, hso2⟩ := hI3.form
      rw [HNL.out] at ex2 hso2
      cases ex2
      obtain ⟨gd', e2, hgd, hcd⟩ := hso2 _ rfl
      cases e2
      have hcell2 := hcd r hlt
      rw [nats_getD] at hcell2
      have hs1 : (0 : Int) ≤ (r : Int) := by omega
      have hs2 : (r : Int) < (n : Int) := by omega
      obtain ⟨f1, f2, f3, f4, f5, f6, f7⟩ := HPF.out r hrn
      have hnn := putN_n (W.sd i) (W.sd j).xs (W.sd j).ws r (by rw [← CJ.out.len, HN.out]; exact hrn)
      have hta := wAll_take_le (W.sd j).ws r
      have hwr : (W.sd j).ws.getD r 0 ≤ 268435456 := CJ.out.inok.wl r
      have hbi : (W.sd i).n ≤ 268435456 := by rw [CI.out.inok.n]; exact CI.out.inok.ok.cnt
      have hbj : (W.sd j).n ≤ 268435456 := by rw [CJ.out.inok.n]; exact CJ.out.inok.ok.cnt
      have hsi9 := CI.out.sum
      have hsj9 := CJ.out.sum
      have hlen9 := putN_len (W.sd i) (W.sd j).xs (W.sd j).ws r
      have hxi9 := CI.out.inok.xl
      have HPU := hid (fun (wx : World) (hx : WdSt (fun b => K b ∨ b = g0) w2 wx p d nw ps (W.side i (putN (W.sd i) (W.sd j).xs (W.sd j).ws r))) => wput_any p d i ((W.sd j).ws.getD r 0) ((W.sd j).xs.getD r 0) ps _ wx hx hi (by rw [Wd.side_at]; omega) (by rw [Wd.side_at]; omega) (fun t => by rw [Wd.side_at]; have := wAll_at (ws := (putN (W.sd i) (W.sd j).xs (W.sd j).ws r).ws) (i := t); omega))
      have HST := hid Hst.out
      have HPE : Hid ((W.side i (putN (W.sd i) (W.sd j).xs (W.sd j).ws r)).side i (((W.side i (putN (W.sd i) (W.sd j).xs (W.sd j).ws r)).sd i).put ((W.sd j).xs.getD r 0) ((W.sd j).ws.getD r 0)) = W.side i (putN (W.sd i) (W.sd j).xs (W.sd j).ws (r + 1))) := by
        rw [Wd.side_at, Wd.side_side]; rfl
      rw [HPE.out] at HPU
      generalize W.side i (putN (W.sd i) (W.sd j).xs (W.sd j).ws r) = W1 at *
      generalize hW2 : W.side i (putN (W.sd i) (W.sd j).xs (W.sd j).ws (r + 1)) = W2 at *
      have HW2 := hid hW2
      generalize (W.sd j).ws.getD r 0 = wt at *
      generalize (W.sd j).xs.getD r 0 = xr at *
      clear Hst h1 h2K1 hk1 hsj hsi hxj hkj hix ex hno hso hcc hcd hso2 f1 f2 f3 f4 f5 f6 f7 hnn hta c1 c2 c3 c4 c5 d0 d1 d2 d3 d4 d5 hrest HPE hsi9 hsj9 hlen9 hxi9 hW2
      go_wp2_with fail
      go_region_with (first | (go_at_call 70; refine (HPU.out _ ?_).mono ?_; exact HST.out.drew; rintro e w3 ⟨rfl, hpost⟩))
      all_goals
        have HPO := hid hpost
        clear hpost
        go_wp2_with fail
        go_roundw
        case rel => exact ⟨r + 1, by go_num, by omega, by rw [HW2.out]; exact HPO⟩
        case measure => simp [intOf]; omega
    · have hrn' : r = n := by omega
      subst hrn'
      have HST := hid Hst.out
      have HEQ : Hid ((W.sd i).all (W.sd j) = { putN (W.sd i) (W.sd j).xs (W.sd j).ws r with k := if (W.sd j).k < (W.sd i).k then (W.sd j).k else (W.sd i).k, ones := (W.sd i).ones && (W.sd j).ones }) := by rw [← HN.out]; rfl
      have HRE := hid hrest
      generalize hW1 : W.side i (putN (W.sd i) (W.sd j).xs (W.sd j).ws r) = W1 at *
      have HW1 := hid hW1
      have HSD : Hid (W1.sd i = putN (W.sd i) (W.sd j).xs (W.sd j).ws r) := by rw [← hW1]; exact Wd.side_at _ _ _
      generalize hki : (W.sd i).k = ki at *
      generalize hkj9 : (W.sd j).k = kj at *
      generalize hoi : (W.sd i).ones = oi at *
      generalize hoj : (W.sd j).ones = oj at *
      have hFin : ∀ (q k : Nat) (o : Bool), (k = if kj < ki then kj else ki) → o = (oi && oj) → WdSt K w0 (((wr.drewN q).setCell ⟨ps i, 3, none⟩ (.int .i64 (k : Int))).setCell ⟨ps i, 4, none⟩ (.bool o)) p d nw ps (W.side i ((W.sd i).all (W.sd j))) := by
        intro q k o hk ho
        have h8 := (((HST.out.drewN (n := q)).setK hi k).setOnes hi o).back HKB.out HKL.out
        rw [Wd.side_at, Wd.side_side, HSD.out, ← HW1.out, Wd.side_side] at h8
        rw [HEQ.out, ← hk, ← ho]
        exact h8
      have hFin2 : ∀ (q : Nat) (o : Bool), ¬ kj < ki → o = (oi && oj) → WdSt K w0 ((wr.drewN q).setCell ⟨ps i, 4, none⟩ (.bool o)) p d nw ps (W.side i ((W.sd i).all (W.sd j))) := by
        intro q o hk ho
        have h8 := ((HST.out.drewN (n := q)).setOnes hi o).back HKB.out HKL.out
        rw [HSD.out, ← HW1.out, Wd.side_side] at h8
        rw [HEQ.out, if_neg hk, ← ho]
        have h9 := HRE.out.1
        have e : ({ putN (W.sd i) (W.sd j).xs (W.sd j).ws r with k := ki, ones := o } : Sd) = { putN (W.sd i) (W.sd j).xs (W.sd j).ws r with ones := o } := by rw [← h9]
        rw [e]; exact h8
      have HFI := hid hFin
      have HF2 := hid hFin2
      clear hFin hFin2 Hst h1 h2K1 hk1 hsj hsi hxj hkj hix ex hno hso hrest hW1 hki hkj9 hoi hoj c0 c1 c2 c5 d0 d1 d2 d5 HEQ HRE
      clear hrn hlt
      by_cases hkk : kj < ki
      · have hkk' : decide ((kj : Int) < (ki : Int)) = true := by simp; omega
        cases oi
        · go_wp2_with fail
          go_quiet (fail)
          go_wp2_with fail
          go_end0
          exact ⟨rfl, HFI.out _ kj false (by rw [if_pos hkk]) rfl⟩
        · go_wp2_with fail
          go_quiet (fail)
          go_wp2_with fail
          go_end0
          exact ⟨rfl, HFI.out _ kj oj (by rw [if_pos hkk]) (by simp)⟩
      · have hkk' : decide ((kj : Int) < (ki : Int)) = false := by simp; omega
        cases oi
        · go_wp2_with fail
          go_quiet (fail)
          go_wp2_with fail
          go_end0
          exact ⟨rfl, HF2.out _ false hkk rfl⟩
        · go_wp2_with fail
          go_quiet (fail)
          go_wp2_with fail
          go_end0
          exact ⟨rfl, HF2.out _ oj hkk (by simp)⟩

end Go.Proofs.Ytklicjbpjigfdab

/- DERIVED. The walk of the statement's own merge: sketch j comes into sketch i, a coin more each time till the coins suffice. -/
namespace Go.Proofs.Ytklicjbpjigfdab
open Go.RowKit
variable {K : Nat → Prop} {w0 : World} {nw : Nat}

/-- The world behind it. -/
def Wd.joined (W : Wd) (i j : Nat) (L' : List Lvl) (u a : Nat) : Wd :=
  { W with D := { W.D with tape := [], sks := W.D.sks.set i { sk := { k := mgK (W.D.sks.getD i Hd.none) (W.D.sks.getD j Hd.none), lv := L', lo := mgLo (W.D.sks.getD i Hd.none) (W.D.sks.getD j Hd.none), hi := mgHi (W.D.sks.getD i Hd.none) (W.D.sks.getD j Hd.none) }, sealed := (W.D.sks.getD i Hd.none).sealed, taken := (W.D.sks.getD i Hd.none).taken } }, sd := fun b => if b = i then (W.sd i).all (W.sd j) else W.sd b, used := W.used + u, at_ := a }
/-- What merge leaves. -/
def MergePost (K : Nat → Prop) (w0 : World) (p d nw i j : Nat) (ps : Nat → Nat) (W : Wd) (w' : World) : Prop :=
  (268435456 < wsum (W.D.sks.getD i Hd.none).sk.lv + wsum (W.D.sks.getD j Hd.none).sk.lv ∧ WdSt K w0 w' p d nw ps W) ∨
  (wsum (W.D.sks.getD i Hd.none).sk.lv + wsum (W.D.sks.getD j Hd.none).sk.lv ≤ 268435456 ∧ ∃ cs L' a, DrawOk W cs a ∧ settle (mgK (W.D.sks.getD i Hd.none) (W.D.sks.getD j Hd.none)) cs 0 (mgL (W.D.sks.getD i Hd.none) (W.D.sks.getD j Hd.none)) = some (L', cs.length) ∧ cs.length ≤ 230 ∧ WdSt K w0 w' p d nw ps (W.joined i j L' cs.length a))

set_option maxHeartbeats 2000000 in
set_option maxRecDepth 100000 in
theorem wmerge_any (p d i j : Nat) (ps : Nat → Nat) (W : Wd) (w : World) (h : WdSt K w0 w p d nw ps W) (hi : i < nw) (hj : j < nw) (hl : W.D.sks.length = nw) (hun : (W.D.sks.getD i Hd.none).sealed = false) (ci : Came (W.D.sks.getD i Hd.none) (W.sd i)) (cj : Came (W.D.sks.getD j Hd.none) (W.sd j)) (htp : W.D.tape = []) (hat : W.at_ ≤ 140737488355328) (hcs : W.coins.size ≤ 140737488355328) (hmost : W.most = -1) (hus : W.used ≤ 1099511627776) :
    Calls Try.prog 39 #[.pointer (some ⟨p, 0, none⟩), .int .i64 (i : Int), .int .i64 (j : Int)] w fun e w' => e = .returned (.bool true) ∧ MergePost K w0 p d nw i j ps W w' := by
  have HST := hid h
  obtain ⟨own, vs, vx, vw, h, h2K, hk⟩ := h
  obtain ⟨gs, cs0, evs, hptr⟩ := h.ptr hi
  obtain ⟨gs2, cs2, evs2, hptr2⟩ := h.ptr hj
  rw [evs] at evs2
  cases evs2
  obtain ⟨c0, c1, c2, c3, c4, c5, c6, cz⟩ := blk7 h.blk
  rw [evs] at c1
  have CI := hid ci
  have HUN := hid hun
  clear hun
  have CJ := hid cj
  have HTP := hid htp
  have HL := hid hl
  have HMO := hid hmost
  have HB := hid (merge_few ci.inok.ok cj.inok.ok ci.inok.set cj.inok.set)
  have HTS : Hid (tsum (W.D.sks.getD i Hd.none).sk.lv + tsum (W.D.sks.getD j Hd.none).sk.lv ≤ 549755813888) := by
    have := ci.tn; have := cj.tn; have := ci.inok.ok.cnt; have := cj.inok.ok.cnt
    unfold Hid; omega
  generalize hpi : ps i = pi at *
  generalize hpj : ps j = pj at *
  have hs1 : (0 : Int) ≤ (i : Int) := by omega
  have hs2 : (i : Int) < (nw : Int) := by omega
  have hs3 : (0 : Int) ≤ (j : Int) := by omega
  have hs4 : (j : Int) < (nw : Int) := by omega
  clear h h2K hk evs htp hl hmost ci cj
  go_enter Try.func39, Try.ntmps39
  go_wp2_with fail
  go_loopw [9] (fun si wr => ∃ (cs : List Bool) (a : Nat), si = .int .i64 (cs.length : Int) ∧ Hid (DrawOk W cs a) ∧ cs.length ≤ 230 ∧ Hid (WdSt K w0 wr p d nw ps { W with D := { W.D with tape := cs }, used := W.used + cs.length, at_ := a }) ∧
      Hid ((cs = [] ∧ a = W.at_) ∨ (wsum (W.D.sks.getD i Hd.none).sk.lv + wsum (W.D.sks.getD j Hd.none).sk.lv ≤ 268435456 ∧ ∃ cs' c, cs = cs' ++ [c] ∧ settle (mgK (W.D.sks.getD i Hd.none) (W.D.sks.getD j Hd.none)) cs' 0 (mgL (W.D.sks.getD i Hd.none) (W.D.sks.getD j Hd.none)) = Option.none))) (fun si _ => 256 - (intOf si).toNat)
  case atStart =>
    refine ⟨[], W.at_, rfl, ⟨hat, rfl, rfl⟩, Nat.zero_le _, ?_, .inl ⟨rfl, rfl⟩⟩
    have := HST.out
    rw [wd_eta HTP.out] at this
    exact this
  case round =>
    obtain ⟨cs, a, rfl, ha, hc29, Hst, Hcs⟩ := hrel
    obtain ⟨own1, vs1, vx1, vw1, h1, h2K1, hk1⟩ := Hst.out
    obtain ⟨d0, d1, d2, d3, d4, d5, d6, dz⟩ := blk7 h1.blk
    have hA := hid (dmerge_any (F := fun b => own1 b = 1) d i j { W.D with tape := cs } wr h1.desk (by rw [HL.out]; exact hi) (by rw [HL.out]; exact hj) CI.out.inok.ok CJ.out.inok.ok HUN.out HTS.out (by show cs.length ≤ 1024; omega))
    have H1 := hid h1
    have H2 := hid h2K1
    have HK := hid hk1
    clear h1 h2K1 hk1 c0 c1 c2 c3 c4 c5 c6 cz hptr hptr2
    have hni : (W.sd i).n ≤ 268435456 := by rw [CI.out.inok.n]; exact CI.out.inok.ok.cnt
    have hnj : (W.sd j).n ≤ 268435456 := by rw [CJ.out.inok.n]; exact CJ.out.inok.ok.cnt
    by_cases hfull : wsum (W.D.sks.getD i Hd.none).sk.lv + wsum (W.D.sks.getD j Hd.none).sk.lv ≤ 268435456
    · have HFU := hid hfull
      have hfi : ¬ 268435456 - ((W.sd i).n : Int) < ((W.sd j).n : Int) := by rw [CI.out.inok.n, CJ.out.inok.n]; omega
      have hfi' : decide (268435456 - ((W.sd i).n : Int) < ((W.sd j).n : Int)) = false := decide_eq_false hfi
      go_wp2_with fail
      refine hA.out.mono ?_
      intro e w1 hans
      rw [if_pos hfull] at hans
      clear hfull
      cases hset : settle (mgK (W.D.sks.getD i Hd.none) (W.D.sks.getD j Hd.none)) cs 0 (mgL (W.D.sks.getD i Hd.none) (W.D.sks.getD j Hd.none)) with
      | none =>
        have hans' : e = .returned (.int .i64 7) ∧ Below wr.heap.size wr w1 := by
          have h9 := hans
          rw [hset] at h9
          exact h9
        obtain ⟨rfl, hb1⟩ := hans'
        have HSET := hid hset
        have hb9 := settle_none_bound hset
        have hcn : cs.length < 230 := by have := HB.out; omega
        have hst1 := Hst.out.below hb1
        have HM := hid (more_any p d nw ps _ w1 hst1 ha.out.1 hcs HMO.out (by show W.used + cs.length ≤ _; omega) (by show cs.length < 1024; omega))
        clear hans hset hb1 hst1
        go_wp2_with fail
        refine HM.out.mono ?_
        rintro e w2 ⟨c, a2, rfl, ha2, hst2⟩
        have HA2 := hid ha2
        clear ha2
        have HS2 := hid hst2
        clear hst2
        go_wp2_with fail
        go_roundw
        case rel =>
          refine ⟨cs ++ [c], a2, by simp, ha.out.snoc HA2.out, by simp; omega, ?_, .inr ⟨HFU.out, cs, c, rfl, HSET.out⟩⟩
          have := HS2.out
          simpa [Hid, Nat.add_assoc] using this
        case measure => simp [intOf]; omega
      | some q =>
        obtain ⟨L', u⟩ := q
        have hans' : e = .returned (.int .i64 0) ∧ DeskStep (fun b => own1 b = 1) wr w1 d { W.D with tape := cs.drop u, sks := W.D.sks.set i { sk := { k := mgK (W.D.sks.getD i Hd.none) (W.D.sks.getD j Hd.none), lv := L', lo := mgLo (W.D.sks.getD i Hd.none) (W.D.sks.getD j Hd.none), hi := mgHi (W.D.sks.getD i Hd.none) (W.D.sks.getD j Hd.none) }, sealed := (W.D.sks.getD i Hd.none).sealed, taken := (W.D.sks.getD i Hd.none).taken } } := by
          have h9 := hans
          rw [hset] at h9
          exact h9
        obtain ⟨rfl, hst1⟩ := hans'
        have hu : u = cs.length := by
          rcases Hcs.out with ⟨e, _⟩ | ⟨_, cs', c, e, e2⟩
          · subst e; have := settle_used hset; simp at this; simpa using this
          · rw [e] at hset
            have := settle_last e2 hset
            rw [e]; simp; omega
        subst hu
        rw [List.drop_length] at hst1
        have hw1 := H1.out.deskStep H2.out HK.out hst1
        have HSET := hid hset
        have HCL := hid (clean_any p d nw ps _ w1 hw1)
        have HAL := hid (fun (wx : World) (hx : WdSt K w0 wx p d nw ps { W with D := { W.D with tape := [], sks := W.D.sks.set i { sk := { k := mgK (W.D.sks.getD i Hd.none) (W.D.sks.getD j Hd.none), lv := L', lo := mgLo (W.D.sks.getD i Hd.none) (W.D.sks.getD j Hd.none), hi := mgHi (W.D.sks.getD i Hd.none) (W.D.sks.getD j Hd.none) }, sealed := (W.D.sks.getD i Hd.none).sealed, taken := (W.D.sks.getD i Hd.none).taken } }, used := W.used + cs.length, at_ := a }) => all_any (K := K) (w0 := w0) p d i j _ _ ps _ wx hx hi hj CI.out CJ.out)
        have HW1 : Hid (WdSt K w0 w1 p d nw ps { W with D := { W.D with tape := [], sks := W.D.sks.set i { sk := { k := mgK (W.D.sks.getD i Hd.none) (W.D.sks.getD j Hd.none), lv := L', lo := mgLo (W.D.sks.getD i Hd.none) (W.D.sks.getD j Hd.none), hi := mgHi (W.D.sks.getD i Hd.none) (W.D.sks.getD j Hd.none) }, sealed := (W.D.sks.getD i Hd.none).sealed, taken := (W.D.sks.getD i Hd.none).taken } }, used := W.used + cs.length, at_ := a }) := hw1
        obtain ⟨own2, vs2, vx2, vw2, h2, h2K2, hk2⟩ := hw1
        have hsd := (h2.side i hi).blk
        have hsd2 := (h2.side j hj).blk
        rw [hpi] at hsd HAL
        rw [hpj] at hsd2 HAL
        have s2' : w1.cell? ⟨pi, 2, none⟩ = some (.int .i64 ((W.sd i).n : Int)) := (blk6 hsd).2.2.1
        have t2' : w1.cell? ⟨pj, 2, none⟩ = some (.int .i64 ((W.sd j).n : Int)) := (blk6 hsd2).2.2.1
        clear hans hset hst1 h2 h2K2 hk2 hsd hsd2
        generalize (W.sd i).n = ni at *
        generalize (W.sd j).n = nj at *
        go_wp2_with (first | (go_at_call 72; refine HCL.out.mono ?_; rintro e w' ⟨rfl, hw⟩; obtain rfl := hw.symm))
        go_quiet (fail)
        go_wp2_with fail
        refine (HAL.out _ HW1.out.drewN).mono ?_
        rintro e w3 ⟨rfl, hst3⟩
        have HS3 := hid hst3
        clear hst3 HAL HW1
        go_wp2_with fail
        go_ret
        exact ⟨rfl, .inr ⟨HFU.out, cs, L', a, ha.out, HSET.out, hc29, HS3.out⟩⟩
    · go_wp2_with fail
      refine hA.out.mono ?_
      intro e w1 hans
      rw [if_neg hfull] at hans
      obtain ⟨rfl, hb1⟩ := hans
      have hcs0 : cs = [] ∧ a = W.at_ := by
        rcases Hcs.out with e | e
        · exact e
        · exact absurd e.1 hfull
      obtain ⟨hc0, ha0⟩ := hcs0
      subst hc0
      have HA0 := hid ha0
      clear ha0
      have hst1 := Hst.out.below hb1
      have HCL := hid (clean_any p d nw ps _ w1 hst1)
      obtain ⟨own2, vs2, vx2, vw2, h2, _⟩ := hst1
      have hsd := (h2.side i hi).blk
      have hsd2 := (h2.side j hj).blk
      rw [hpi] at hsd
      rw [hpj] at hsd2
      have s2' : w1.cell? ⟨pi, 2, none⟩ = some (.int .i64 ((W.sd i).n : Int)) := (blk6 hsd).2.2.1
      have t2' : w1.cell? ⟨pj, 2, none⟩ = some (.int .i64 ((W.sd j).n : Int)) := (blk6 hsd2).2.2.1
      have HS1 := hid (Hst.out.below hb1)
      have hfi : 268435456 - ((W.sd i).n : Int) < ((W.sd j).n : Int) := by rw [CI.out.inok.n, CJ.out.inok.n]; omega
      have hfi' : decide (268435456 - ((W.sd i).n : Int) < ((W.sd j).n : Int)) = true := decide_eq_true hfi
      have HFU := hid hfull
      clear hb1 h2 hfull hsd hsd2
      generalize (W.sd i).n = ni at *
      generalize (W.sd j).n = nj at *
      go_wp2_with (first | (go_at_call 72; refine HCL.out.mono ?_; rintro e w' ⟨rfl, hw⟩; obtain rfl := hw.symm))
      go_quiet (fail)
      go_wp2_with fail
      go_ret
      refine ⟨rfl, .inl ⟨by have := HFU.out; omega, ?_⟩⟩
      have := HS1.out
      rw [HA0.out] at this
      rw [wd_eta HTP.out]
      exact this.drewN

end Go.Proofs.Ytklicjbpjigfdab

/- DERIVED. The walk of step where a sketch comes into another; what goes on holding with every step. -/
namespace Go.Proofs.Ytklicjbpjigfdab
open Go.RowKit
attribute [local go_sem ↓] Go.wp_at_zero Go.wp_at_succ
variable {K : Nat → Prop} {w0 : World}

/-- The sum of the first m. -/
def sumTo : Nat → (Nat → Nat) → Nat
  | 0, _ => 0
  | m + 1, f => sumTo m f + f m
theorem sumTo_congr {f g : Nat → Nat} : ∀ {m : Nat}, (∀ j, j < m → f j = g j) → sumTo m f = sumTo m g
  | 0, _ => rfl
  | m + 1, h => by rw [sumTo, sumTo, sumTo_congr (fun j hj => h j (by omega)), h m (by omega)]
/-- One of them turns. -/
theorem sumTo_turn {f g : Nat → Nat} {i : Nat} : ∀ {m : Nat}, i < m → (∀ j, j ≠ i → f j = g j) → sumTo m f + g i = sumTo m g + f i
  | 0, h, _ => by omega
  | m + 1, h, hj => by
    rw [sumTo, sumTo]
    by_cases e : i = m
    · subst e
      have := sumTo_congr (m := i) (f := f) (g := g) (fun j hj' => hj j (by omega))
      omega
    · have := sumTo_turn (f := f) (g := g) (i := i) (m := m) (by omega) hj
      have := hj m (Ne.symm e)
      omega
theorem sumTo_le {f : Nat → Nat} {c : Nat} : ∀ {m : Nat}, (∀ j, j < m → f j ≤ c) → sumTo m f ≤ m * c
  | 0, _ => Nat.zero_le _
  | m + 1, h => by
    have h1 := sumTo_le (m := m) (fun j hj => h j (by omega))
    have h2 := h m (by omega)
    rw [sumTo, Nat.succ_mul]; omega

/-- What holds of the statement's world with m sketches all the way, whatever comes into whatever. -/
structure MInvM (m : Nat) (W : Wd) : Prop where
  len : W.D.sks.length = m
  tape : W.D.tape = []
  at_ : W.at_ ≤ 140737488355328
  coins : W.coins.size ≤ 140737488355328
  most : W.most = -1
  used : W.used + 256 * sumTo m (fun i => (W.D.sks.getD i Hd.none).sk.k) ≤ 256 * sumTo m (fun i => (W.sd i).n) + 256 * (64 * m)
  came : ∀ i, i < m → Came (W.D.sks.getD i Hd.none) (W.sd i)
  roomy : ∀ i, i < m → Roomy (W.D.sks.getD i Hd.none).sk.k (W.D.sks.getD i Hd.none).sk.lv
  tall : ∀ i, i < m → Tall (W.D.sks.getD i Hd.none).sk.lv
  near : ∀ i, i < m → ∀ q, Near q (W.D.sks.getD i Hd.none).sk.lv (wFilter (fun x => decide (x ≤ q)) (W.sd i).xs (W.sd i).ws)
  uns : ∀ i, i < m → (W.D.sks.getD i Hd.none).sealed = false
/-- With three. -/
abbrev MInv (W : Wd) : Prop := MInvM 3 W

theorem MInvM.small {m : Nat} {W : Wd} (h : MInvM m W) (hm : m ≤ 4) : W.used ≤ 1099511627776 := by
  have hs := sumTo_le (m := m) (f := fun i => (W.sd i).n) (c := 268435456) (fun j hj => by
    have h0 := (h.came j hj).inok
    have := h0.ok.cnt
    have := h0.n
    omega)
  have hu := h.used
  omega
theorem MInv.small {W : Wd} (h : MInv W) : W.used ≤ 1099511627776 := MInvM.small h (by omega)
theorem MInv.ok {W : Wd} (h : MInv W) : WdOk W := ⟨h.len, h.tape, h.at_, h.coins, h.most, MInvM.small h (by omega), fun i hi => (h.came i hi).inok, h.uns⟩

/-- A world in which one sketch and its side have turned. -/
theorem MInvM.turn {m : Nat} {W : Wd} {i u a : Nat} {hd : Hd} {s : Sd} (h : MInvM m W) (hi : i < m) (ha : a ≤ 140737488355328)
    (hu : u + 256 * hd.sk.k + 256 * (W.sd i).n ≤ 256 * s.n + 256 * (W.D.sks.getD i Hd.none).sk.k)
    (hsl : hd.sealed = false) (hc : Came hd s) (hr : Roomy hd.sk.k hd.sk.lv) (ht : Tall hd.sk.lv) (hn : ∀ q, Near q hd.sk.lv (wFilter (fun x => decide (x ≤ q)) s.xs s.ws)) :
    MInvM m { W with D := { W.D with tape := [], sks := W.D.sks.set i hd }, sd := fun j => if j = i then s else W.sd j, used := W.used + u, at_ := a } := by
  have hil : i < W.D.sks.length := by rw [h.len]; exact hi
  have hat : ∀ j, (W.D.sks.set i hd).getD j Hd.none = if j = i then hd else W.D.sks.getD j Hd.none := by
    intro j
    by_cases e : j = i
    · subst e
      rw [if_pos rfl]
      simp only [List.getD]
      rw [List.getElem?_set_self hil]
      rfl
    · rw [if_neg e]
      simp only [List.getD]
      rw [List.getElem?_set_ne (Ne.symm e)]
  refine ⟨?_, rfl, ha, h.coins, h.most, ?_, fun j hj => ?_, fun j hj => ?_, fun j hj => ?_, fun j hj => ?_, fun j hj => sealed_set (h.uns j hj) hsl⟩
  · show (W.D.sks.set i hd).length = m
    rw [List.length_set]; exact h.len
  · have h9 := h.used
    show W.used + u + 256 * sumTo m (fun j => ((W.D.sks.set i hd).getD j Hd.none).sk.k) ≤ 256 * sumTo m (fun j => (if j = i then s else W.sd j).n) + 256 * (64 * m)
    have e1 := sumTo_turn (f := fun j => ((W.D.sks.set i hd).getD j Hd.none).sk.k) (g := fun j => (W.D.sks.getD j Hd.none).sk.k) hi (fun j hj => by rw [hat, if_neg hj])
    have e2 := sumTo_turn (f := fun j => (if j = i then s else W.sd j).n) (g := fun j => (W.sd j).n) hi (fun j hj => by rw [if_neg hj])
    simp only [hat, if_true] at e1 e2
    simp only [hat]
    omega
  all_goals
    first
    | show Came ((W.D.sks.set i hd).getD j Hd.none) (if j = i then s else W.sd j)
    | show Roomy ((W.D.sks.set i hd).getD j Hd.none).sk.k ((W.D.sks.set i hd).getD j Hd.none).sk.lv
    | show Tall ((W.D.sks.set i hd).getD j Hd.none).sk.lv
    | show ∀ q, Near q ((W.D.sks.set i hd).getD j Hd.none).sk.lv (wFilter (fun x => decide (x ≤ q)) (if j = i then s else W.sd j).xs (if j = i then s else W.sd j).ws)
    rw [hat]
    by_cases e : j = i
    · simp only [if_pos e]; assumption
    · simp only [if_neg e]
      first
      | exact h.came j hj
      | exact h.roomy j hj
      | exact h.tall j hj
      | exact h.near j hj

theorem minv_took {m : Nat} {W : Wd} {i : Nat} {x : Int} {wt a : Nat} {cs : List Bool} {L' : List Lvl} (h : MInvM m W) (hi : i < m) (hw1 : 1 ≤ wt) (hw2 : wt ≤ 268435456) (hf : wsum (W.D.sks.getD i Hd.none).sk.lv + wt ≤ 268435456) (ha : a ≤ 140737488355328)
    (hs : settle (W.D.sks.getD i Hd.none).sk.k cs 0 (addL (W.D.sks.getD i Hd.none) x wt) = some (L', cs.length)) (hcs : cs.length ≤ 29) : MInvM m (W.took i x wt L' cs.length a) := by
  have hc := h.came i hi
  have hlt : wt < 2 ^ 29 := Nat.lt_of_le_of_lt hw2 (by decide)
  have hro : Roomy (W.D.sks.getD i Hd.none).sk.k L' := (Roomy.with (h.roomy i hi)).settle hs
  have hta : Tall L' := by
    refine Tall.settle ?_ hs
    have e1 : wsum (addL (W.D.sks.getD i Hd.none) x wt) = wsum (W.D.sks.getD i Hd.none).sk.lv + wt := by unfold addL; rw [withFrom_wsum hlt (Nat.zero_le _)]; simp
    unfold Tall
    rw [e1]
    rcases with_tall (x := x) (f := 29) (w := wt) (h := 0) (L := (W.D.sks.getD i Hd.none).sk.lv) (Nat.zero_le _) with e | e
    · have e' : (addL (W.D.sks.getD i Hd.none) x wt).length = (W.D.sks.getD i Hd.none).sk.lv.length := e
      rw [e']
      rcases h.tall i hi with t | t
      · exact .inl t
      · right; omega
    · right
      have e' : 2 ^ ((addL (W.D.sks.getD i Hd.none) x wt).length - 1) ≤ 2 ^ 0 * wt := e
      omega
  have hcame := came_took hc hw1 hw2 hf hs
  have hLw : LvOk (putXs (W.sd i) x) (addL (W.D.sks.getD i Hd.none) x wt) := LvOk.with (put_facts (x := x) (wt := wt) hc.len).2.2.1 (hc.lvok.mono (put_facts (x := x) (wt := wt) hc.len).2.2.2.1)
  refine h.turn (i := i) hi ha ?_ (h.uns i hi) hcame hro hta (fun q => ?_)
  · show cs.length + 256 * (W.D.sks.getD i Hd.none).sk.k + 256 * (W.sd i).n ≤ 256 * ((W.sd i).n + wt) + 256 * (W.D.sks.getD i Hd.none).sk.k
    omega
  · show Near q L' (wFilter (fun x => decide (x ≤ q)) (putXs (W.sd i) x) (putWs (W.sd i) x wt))
    refine Near.settle ?_ hLw hs
    rw [wFilter_put _ hc.len]
    have hn := h.near i hi q
    unfold Near addL at *
    rw [usum_with hlt (Nat.zero_le _), esum_with]
    simp only [Nat.pow_zero, Nat.one_mul, decide_eq_true_eq]
    split <;> omega

theorem MInv.add {W : Wd} {p d i : Nat} {ps : Nat → Nat} {x : Int} {wt : Nat} {w' : World} (h : MInv W) (hi : i < 3) (hw1 : 1 ≤ wt) (hw2 : wt ≤ 268435456) (ha : AddPost K w0 p d 3 i ps x wt W w') : ∃ W', WdSt K w0 w' p d 3 ps W' ∧ MInv W' := by
  rcases ha with ⟨_, hst⟩ | ⟨hf, cs, L', a, ha, hs, hcs, hst⟩
  · exact ⟨W, hst, h⟩
  · exact ⟨_, hst, minv_took h hi hw1 hw2 hf ha.1 hs hcs⟩

/-- A merge that changes neither count nor K takes no coin. -/
theorem merge_none {a b : Hd} {cs : List Bool} {L' : List Lvl} {u : Nat} (sa : nsum a.sk.lv ≤ capSum a.sk.k a.sk.lv.length) (hb : wsum b.sk.lv = 0) (hk : mgK a b = a.sk.k) (hs : settle (mgK a b) cs 0 (mgL a b) = some (L', u)) : u = 0 := by
  have e2 : (mgL a b).length = max a.sk.lv.length b.sk.lv.length := mergeL_length _ _
  have e5 : nsum (mgL a b) = nsum a.sk.lv + nsum b.sk.lv := mergeL_nsum _ _
  have hn := nsum_le b.sk.lv
  have hc := capSum_mono (k := a.sk.k) (Nat.le_max_left a.sk.lv.length b.sk.lv.length)
  have := settle_few (m := 0) (by rw [e2, e5, hk]; omega) hs
  omega

theorem minv_joined {m : Nat} {W : Wd} {i j a : Nat} {cs : List Bool} {L' : List Lvl} (h : MInvM m W) (hi : i < m) (hj : j < m) (hf : wsum (W.D.sks.getD i Hd.none).sk.lv + wsum (W.D.sks.getD j Hd.none).sk.lv ≤ 268435456) (ha : a ≤ 140737488355328)
    (hs : settle (mgK (W.D.sks.getD i Hd.none) (W.D.sks.getD j Hd.none)) cs 0 (mgL (W.D.sks.getD i Hd.none) (W.D.sks.getD j Hd.none)) = some (L', cs.length)) (hcs : cs.length ≤ 230) : MInvM m (W.joined i j L' cs.length a) := by
  have hci := h.came i hi
  have hcj := h.came j hj
  have hki : mgK (W.D.sks.getD i Hd.none) (W.D.sks.getD j Hd.none) ≤ (W.D.sks.getD i Hd.none).sk.k := by unfold mgK mergeK; split <;> omega
  have hkj : mgK (W.D.sks.getD i Hd.none) (W.D.sks.getD j Hd.none) ≤ (W.D.sks.getD j Hd.none).sk.k := by unfold mgK mergeK; split <;> omega
  have hcame := came_merged hci hcj hf hs
  have hro : Roomy (mgK (W.D.sks.getD i Hd.none) (W.D.sks.getD j Hd.none)) L' := (Roomy.merge ((h.roomy i hi).mono hki) ((h.roomy j hj).mono hkj)).settle hs
  have hta : Tall L' := Tall.settle (Tall.merge (h.tall i hi) (h.tall j hj)) hs
  obtain ⟨f1, f2, f3, f4, f5, f6, f7⟩ := putN_facts (s := W.sd i) hci.len hci.pos hcj.len hcj.pos (W.sd j).xs.length (Nat.le_refl _)
  have f4' : ∀ y ∈ (W.sd j).xs, y ∈ (putN (W.sd i) (W.sd j).xs (W.sd j).ws (W.sd j).xs.length).xs := by
    intro y hy
    obtain ⟨t, ht, rfl⟩ := List.mem_iff_getElem.1 hy
    have := f4 t ht
    simpa [List.getD, ht] using this
  have hLw : LvOk (putN (W.sd i) (W.sd j).xs (W.sd j).ws (W.sd j).xs.length).xs (mgL (W.D.sks.getD i Hd.none) (W.D.sks.getD j Hd.none)) := LvOk.merge (hci.lvok.mono f3) (hcj.lvok.mono f4')
  have hn : ((W.sd i).all (W.sd j)).n = (W.sd i).n + (W.sd j).n := by
    show (putN (W.sd i) (W.sd j).xs (W.sd j).ws (W.sd j).xs.length).n = _
    rw [putN_n _ _ _ _ (by rw [hcj.len]; exact Nat.le_refl _), hcj.len, List.take_length, hcj.sum]
  refine h.turn (i := i) hi ha ?_ (h.uns i hi) hcame hro hta (fun q => ?_)
  · show cs.length + 256 * mgK (W.D.sks.getD i Hd.none) (W.D.sks.getD j Hd.none) + 256 * (W.sd i).n ≤ 256 * ((W.sd i).all (W.sd j)).n + 256 * (W.D.sks.getD i Hd.none).sk.k
    rw [hn]
    by_cases h0 : (W.sd j).n = 0
    · by_cases hk : mgK (W.D.sks.getD i Hd.none) (W.D.sks.getD j Hd.none) = (W.D.sks.getD i Hd.none).sk.k
      · have := merge_none hci.inok.set (by rw [← hcj.inok.n]; exact h0) hk hs
        omega
      · omega
    · omega
  · show Near q L' (wFilter (fun x => decide (x ≤ q)) (putN (W.sd i) (W.sd j).xs (W.sd j).ws (W.sd j).xs.length).xs (putN (W.sd i) (W.sd j).xs (W.sd j).ws (W.sd j).xs.length).ws)
    refine Near.settle ?_ hLw hs
    rw [f7, List.take_length, hcj.len, List.take_length]
    have n1 := h.near i hi q
    have n2 := h.near j hj q
    have e1 := usum_merge q (W.D.sks.getD j Hd.none).sk.lv (W.D.sks.getD i Hd.none).sk.lv
    have e2 := esum_merge (W.D.sks.getD j Hd.none).sk.lv (W.D.sks.getD i Hd.none).sk.lv
    unfold Near mgL at *
    omega

theorem MInv.merge {W : Wd} {p d i j : Nat} {ps : Nat → Nat} {w' : World} (h : MInv W) (hi : i < 3) (hj : j < 3) (ha : MergePost K w0 p d 3 i j ps W w') : ∃ W', WdSt K w0 w' p d 3 ps W' ∧ MInv W' := by
  rcases ha with ⟨_, hst⟩ | ⟨hf, cs, L', a, ha, hs, hcs, hst⟩
  · exact ⟨W, hst, h⟩
  · exact ⟨_, hst, minv_joined h hi hj hf ha.1 hs hcs⟩

set_option maxHeartbeats 2000000 in
set_option maxRecDepth 100000 in
theorem stepm_any (p d : Nat) (A B C : Int) (ps : Nat → Nat) (W : Wd) (w : World) (h : WdSt K w0 w p d 3 ps W) (hok : MInv W) (hA : InRange A) (hB : InRange B) :
    Calls Try.prog 31 #[.pointer (some ⟨p, 0, none⟩), .agg #[.int .i64 1, .int .i64 A, .int .i64 B, .int .i64 C]] w fun e w' => e = .returned (.bool true) ∧ MergePost K w0 p d 3 (pickN A 3) (pickN B 3) ps W w' := by
  have hst := h.below ((Below.refl w.heap.size w).alloc (Nat.le_refl _) (.cells #[.int .i64 1, .int .i64 A, .int .i64 B, .int .i64 C] 39))
  have HP := hid (fun (w' : World) => pick_any A 3 w' hA.1 hA.2 (by omega) (by omega))
  have HP2 := hid (fun (w' : World) => pick_any B 3 w' hB.1 hB.2 (by omega) (by omega))
  have hpl := pickN_lt A (n := 3) (by omega)
  have hpl2 := pickN_lt B (n := 3) (by omega)
  have HAD := hid (fun (w' : World) (hb : WdSt K w0 w' p d 3 ps W) => wmerge_any p d (pickN A 3) (pickN B 3) ps W w' hb hpl hpl2 hok.len (hok.uns _ hpl) (hok.came _ hpl) (hok.came _ hpl2) hok.tape hok.at_ hok.coins hok.most (MInvM.small hok (by omega)))
  generalize pickN A 3 = a at *
  generalize pickN B 3 = b at *
  have HST := hid hst
  clear h hst hok
  go_enter Try.func31, Try.ntmps31
  go_wp2_with fail
  refine (HP.out _).mono ?_
  rintro e w' ⟨rfl, hw⟩
  obtain rfl := hw.symm
  clear HP hw
  go_wp2_with fail
  refine (HP2.out _).mono ?_
  rintro e w' ⟨rfl, hw⟩
  obtain rfl := hw.symm
  clear HP2 hw
  go_wp2_with fail
  refine (HAD.out _ HST.out).mono ?_
  rintro e w1 ⟨rfl, hpost⟩
  have HPO := hid hpost
  clear hpost
  go_wp2_with fail
  go_ret
  exact ⟨rfl, HPO.out⟩

/-- Any step. -/
theorem step_any' (p d : Nat) (kd A B C : Int) (ps : Nat → Nat) (W : Wd) (w : World) (h : WdSt K w0 w p d 3 ps W) (hok : MInv W) (hA : InRange A) (hB : InRange B) (hC : InRange C) :
    Calls Try.prog 31 #[.pointer (some ⟨p, 0, none⟩), .agg #[.int .i64 kd, .int .i64 A, .int .i64 B, .int .i64 C]] w fun e w' => e = .returned (.bool true) ∧ ∃ W', WdSt K w0 w' p d 3 ps W' ∧ MInv W' := by
  by_cases hkd : kd = 1
  · subst hkd
    refine (stepm_any p d A B C ps W w h hok hA hB).mono ?_
    rintro e w' ⟨rfl, hp⟩
    exact ⟨rfl, hok.merge (pickN_lt A (by omega)) (pickN_lt B (by omega)) hp⟩
  · refine (step_any p d kd A B C ps W w h hok.ok hkd hA hC).mono ?_
    rintro e w' ⟨rfl, hp⟩
    exact ⟨rfl, hok.add (pickN_lt A (by omega)) (weightN_bd C).1 (weightN_bd C).2 hp⟩

end Go.Proofs.Ytklicjbpjigfdab
