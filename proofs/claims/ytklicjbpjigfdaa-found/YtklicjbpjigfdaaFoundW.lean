/- DERIVED. The walk of the statement's own found. -/
import Derived.Test.YtklicjbpjigfdaaFoundP
import Derived.Test.YtklicjbpjigfdaaDQuantW
import Derived.Deep.RegionWith
import Derived.Deep.Cut
import Derived.Deep.DrawnRows
namespace Go.Proofs.Ytklicjbpjigfdaa
open Go.RowKit
attribute [local go_sem ↓] Go.wp_at_zero Go.wp_at_succ
variable {K : Nat → Prop} {w0 : World}

theorem bdrew {B : Nat} {w w' : World} (h : Below B w w') : Below B w w'.drew := ⟨h.os, h.tape, h.output, h.size, h.block⟩

set_option maxHeartbeats 800000 in
set_option maxRecDepth 100000 in
theorem found_zero (p d i : Nat) (q : Int) (ps : Nat → Nat) (W : Wd) (w : World) (h : WdSt K w0 w p d 3 ps W) (hi : i < 3) (hm : MInv W) (hz : (W.sd i).n = 0) :
    Calls Try.prog 18 #[.pointer (some ⟨p, 0, none⟩), .int .i64 (i : Int), .int .i64 q] w fun e w' => e = .returned (.bool true) ∧ Below w.heap.size w w' := by
  have hc := hm.came i hi
  have hro := hm.roomy i hi
  have HOF := hid (fun (w' : World) (hb : Below w.heap.size w w') => off_any p d i ps W w' (h.below hb) hi hm.len hc hro)
  obtain ⟨own, vs, vx, vw, h, _⟩ := h
  obtain ⟨gs, cs0, evs, hptr⟩ := h.ptr hi
  obtain ⟨c0, c1, c2, c3, c4, c5, c6, cz⟩ := blk7 h.blk
  rw [evs] at c1
  have hil : i < W.D.sks.length := by rw [hm.len]; exact hi
  have hss := ssum_small hc hro
  have HQU := hid (fun (r : Int) (w' : World) (hb : Below w.heap.size w w') => deskQuant d W.D i r w' (h.desk.below hb) hil hc.inok.ok (fun j _ => (hc.lvok.at j).1))
  have HUP := hid (fun (x : Int) (w' : World) (hb : Below w.heap.size w w') => upTo_any (ps i) (W.sd i) (vx i) (vw i) x w' ((h.side i hi).below hb) (by have := hc.inok.xl; omega) (by rw [hc.sum, hc.inok.n]; have := hc.inok.ok.cnt; omega))
  have HBE := hid (fun (x : Int) (w' : World) (hb : Below w.heap.size w w') => below_any (ps i) (W.sd i) (vx i) (vw i) x w' ((h.side i hi).below hb) (by have := hc.inok.xl; omega) (by rw [hc.sum, hc.inok.n]; have := hc.inok.ok.cnt; omega))
  have HIN := hid (fun (x : Int) (w' : World) (hb : Below w.heap.size w w') => in_any (ps i) (W.sd i) (vx i) (vw i) x w' ((h.side i hi).below hb) (by have := hc.inok.xl; omega))
  have hel := esum_le (W.D.sks.getD i Hd.none).sk.lv
  have hcnt := hc.inok.ok.cnt
  have hnw := hc.inok.n
  have HQH := hid (fun r x (h1 : 1 ≤ r) (h2 : r ≤ (W.sd i).n) hq => quant_holds (r := r) (x := x) hc (hm.near i hi) h1 h2 hq)
  have HLE := hid (fun (pr : Int → Bool) => by have := wFilter_le pr (W.sd i).xs (W.sd i).ws; rw [hc.sum] at this; exact this)
  have HPB := hid h.blk
  have hpz := lt_of_blk' h.blk
  have HSD := hid (h.side i hi).blk
  have hsz := lt_of_blk' (h.side i hi).blk
  have hs1 : (0 : Int) ≤ (i : Int) := by omega
  have hs2 : (i : Int) < 3 := by omega
  generalize W.D.sks.getD i Hd.none = de at *
  unfold DQPost at HQU
  generalize esum de.sk.lv = es at *
  generalize ssum de.sk.lv = ss at *
  generalize hwse : wsum de.sk.lv = ws at *
  generalize ps i = pi at *
  generalize hsde : W.sd i = sd at *
  have hs2' := HSD.out
  have s2' : w.cell? ⟨pi, 2, none⟩ = some (.int .i64 (sd.n : Int)) := (blk6 hs2').2.2.1
  generalize hn9 : sd.n = sn at *
  have hn1 : sn ≤ 268435456 := by omega
  have h0 : sn = 0 := hz
  clear hz
  clear hc hro h evs hsde hwse hs2'
  have hw0 : ws = 0 := by omega
  have HQ0 := hid (fun r w' hb => by have h9 := HQU.out r w' hb; rw [hw0] at h9; simp only [if_true] at h9; exact h9)
  subst h0
  clear HQU HQH HUP HBE HIN HOF HLE hnw hw0
  go_enter Try.func18, Try.ntmps18
  go_wp2_with fail
  refine (HQ0.out _ _ (Below.refl _ _)).mono ?_
  rintro e w1 ⟨rfl, hb1⟩
  have hp1 := (hb1.block _ hpz).trans HPB.out
  have hq1 := (hb1.block _ hsz).trans HSD.out
  have s2'' : w1.cell? ⟨pi, 2, none⟩ = some (.int .i64 (0 : Int)) := (blk6 hq1).2.2.1
  clear c0 c1 c2 c3 c4 c5 c6 cz s2'
  obtain ⟨c0, c1, c2, c3, c4, c5, c6, cz⟩ := blk7 hp1
  have HB1 := hid hb1
  clear hb1 hp1 hq1
  go_wp2_with fail
  go_region_with (first | (go_at_call 41; refine (HQ0.out _ _ (bdrew HB1.out)).mono ?_; rintro e w2 ⟨rfl, hb2⟩; have hb3 := HB1.out.trans ((undrew hb2).mono HB1.out.size); have hq2 := (hb3.block _ hsz).trans HSD.out; have s3 : w2.cell? ⟨pi, 2, none⟩ = some (.int .i64 (0 : Int)) := (blk6 hq2).2.2.1; have HB3 := hid hb3; clear hb2 hb3 hq2))
  all_goals
    go_wp2_with fail
    go_ret
    exact ⟨by simp, HB3.out⟩

set_option maxHeartbeats 800000 in
set_option maxRecDepth 100000 in
theorem found_some (p d i : Nat) (q : Int) (ps : Nat → Nat) (W : Wd) (w : World) (h : WdSt K w0 w p d 3 ps W) (hi : i < 3) (hm : MInv W) (hq : InRange q) (hz : (W.sd i).n ≠ 0) :
    Calls Try.prog 18 #[.pointer (some ⟨p, 0, none⟩), .int .i64 (i : Int), .int .i64 q] w fun e w' => e = .returned (.bool true) ∧ Below w.heap.size w w' := by
  have hc := hm.came i hi
  have hro := hm.roomy i hi
  have HOF := hid (fun (w' : World) (hb : Below w.heap.size w w') => off_any p d i ps W w' (h.below hb) hi hm.len hc hro)
  obtain ⟨own, vs, vx, vw, h, _⟩ := h
  obtain ⟨gs, cs0, evs, hptr⟩ := h.ptr hi
  obtain ⟨c0, c1, c2, c3, c4, c5, c6, cz⟩ := blk7 h.blk
  rw [evs] at c1
  have hil : i < W.D.sks.length := by rw [hm.len]; exact hi
  have hss := ssum_small hc hro
  have HQU := hid (fun (r : Int) (w' : World) (hb : Below w.heap.size w w') => deskQuant d W.D i r w' (h.desk.below hb) hil hc.inok.ok (fun j _ => (hc.lvok.at j).1))
  have HUP := hid (fun (x : Int) (w' : World) (hb : Below w.heap.size w w') => upTo_any (ps i) (W.sd i) (vx i) (vw i) x w' ((h.side i hi).below hb) (by have := hc.inok.xl; omega) (by rw [hc.sum, hc.inok.n]; have := hc.inok.ok.cnt; omega))
  have HBE := hid (fun (x : Int) (w' : World) (hb : Below w.heap.size w w') => below_any (ps i) (W.sd i) (vx i) (vw i) x w' ((h.side i hi).below hb) (by have := hc.inok.xl; omega) (by rw [hc.sum, hc.inok.n]; have := hc.inok.ok.cnt; omega))
  have HIN := hid (fun (x : Int) (w' : World) (hb : Below w.heap.size w w') => in_any (ps i) (W.sd i) (vx i) (vw i) x w' ((h.side i hi).below hb) (by have := hc.inok.xl; omega))
  have hel := esum_le (W.D.sks.getD i Hd.none).sk.lv
  have hcnt := hc.inok.ok.cnt
  have hnw := hc.inok.n
  have HQH := hid (fun r x (h1 : 1 ≤ r) (h2 : r ≤ (W.sd i).n) hq => quant_holds (r := r) (x := x) hc (hm.near i hi) h1 h2 hq)
  have HLE := hid (fun (pr : Int → Bool) => by have := wFilter_le pr (W.sd i).xs (W.sd i).ws; rw [hc.sum] at this; exact this)
  have HPB := hid h.blk
  have hpz := lt_of_blk' h.blk
  have HSD := hid (h.side i hi).blk
  have hsz := lt_of_blk' (h.side i hi).blk
  have hs1 : (0 : Int) ≤ (i : Int) := by omega
  have hs2 : (i : Int) < 3 := by omega
  generalize W.D.sks.getD i Hd.none = de at *
  unfold DQPost at HQU
  generalize esum de.sk.lv = es at *
  generalize ssum de.sk.lv = ss at *
  generalize hwse : wsum de.sk.lv = ws at *
  generalize ps i = pi at *
  generalize hsde : W.sd i = sd at *
  have hs2' := HSD.out
  have s2' : w.cell? ⟨pi, 2, none⟩ = some (.int .i64 (sd.n : Int)) := (blk6 hs2').2.2.1
  generalize hn9 : sd.n = sn at *
  have hn1 : sn ≤ 268435456 := by omega
  have h0 : ¬ sn = 0 := hz
  clear hz
  subst hnw
  clear hc hro h evs hsde hwse hs2'
  have hw0 : ¬ sn = 0 := by omega
  have HQ0 := hid (fun r w' hb => by have h9 := HQU.out r w' hb; simp only [if_neg hw0] at h9; exact h9)
  have h0' : ((sn : Int) == 0) = false := by simp; omega
  have HPK := hid (fun (w' : World) => pick_any q sn w' hq.1 hq.2 (by omega) (by omega))
  have hpl := pickN_lt q (n := sn) (by omega)
  generalize pickN q sn = pk at *
  have HA0 := hid (fun w' hb => by have h9 := HQ0.out 0 w' hb; simp only [show ((0 : Int) < 1 ∨ (sn : Int) < 0) = True from by simp, if_true] at h9; exact h9)
  have HA1 := hid (fun w' hb => by have h9 := HQ0.out ((sn : Int) + 1) w' hb; simp only [if_pos (show ((sn : Int) + 1 < 1 ∨ (sn : Int) < (sn : Int) + 1) from .inr (by omega))] at h9; exact h9)
  have HA2 := hid (fun w' hb => by have h9 := HQ0.out ((1 : Int) + (pk : Int)) w' hb; simp only [if_neg (show ¬ ((1 : Int) + (pk : Int) < 1 ∨ (sn : Int) < (1 : Int) + (pk : Int)) from fun h => by omega)] at h9; exact h9)
  clear HQU HQ0
  go_enter Try.func18, Try.ntmps18
  go_wp2_with fail
  refine (HA0.out _ (Below.refl _ _)).mono ?_
  rintro e w1 ⟨rfl, hb1⟩
  have hp1 := (hb1.block _ hpz).trans HPB.out
  have hq1 := (hb1.block _ hsz).trans HSD.out
  have s2'' : w1.cell? ⟨pi, 2, none⟩ = some (.int .i64 (sn : Int)) := (blk6 hq1).2.2.1
  clear c0 c1 c2 c3 c4 c5 c6 cz s2'
  obtain ⟨c0, c1, c2, c3, c4, c5, c6, cz⟩ := blk7 hp1
  have HB1 := hid hb1
  have hwr : IntKind.i64.wrap ((sn : Int) + 1) = (sn : Int) + 1 := by simp [IntKind.wrap, IntKind.bits, IntKind.signed]; omega
  clear hb1 hp1 hq1 HA0
  go_upto_region 3 with fail
  go_cut [10, 11] from 38 (fun s10 s11 wc => s10 = .int .i64 0 ∧ s11 = .int .i64 1 ∧ Below w.heap.size w wc)
  case first =>
    go_region_with (first | (go_at_call 41; refine (HA1.out _ (bdrew HB1.out)).mono ?_; rintro e w2 ⟨rfl, hb2⟩; have hb3 := HB1.out.trans ((undrew hb2).mono HB1.out.size); have HB3 := hid hb3; clear hb2 hb3))
    all_goals
      go_wp2_with fail
      go_meet
      exact ⟨rfl, rfl, HB3.out⟩
  case rest =>
  obtain ⟨rfl, rfl, hb3⟩ := hcut
  have hp3 := (hb3.block _ hpz).trans HPB.out
  have hq3 := (hb3.block _ hsz).trans HSD.out
  have s3 : wc.cell? ⟨pi, 2, none⟩ = some (.int .i64 (sn : Int)) := (blk6 hq3).2.2.1
  clear c0 c1 c2 c3 c4 c5 c6 cz s2''
  obtain ⟨c0, c1, c2, c3, c4, c5, c6, cz⟩ := blk7 hp3
  have HB3 := hid hb3
  clear hb3 hp3 hq3 HA1 HB1
  go_wp2_with (first | (go_at_call 26; refine (HPK.out _).mono ?_; rintro e w' ⟨rfl, hw⟩; obtain rfl := hw.symm))
  refine (HA2.out _ HB3.out).mono ?_
  rintro e w4 ⟨⟨x, rfl, hx⟩, hb4⟩
  have HX := hid (HQH.out (1 + pk) x (by omega) (by omega) (by have e9 : ((1 : Int) + (pk : Int)).toNat = 1 + pk := by omega
                                                               rw [e9] at hx; exact hx))
  have hb5 := HB3.out.trans (hb4.mono HB3.out.size)
  have HB5 := hid hb5
  clear hx hb4 hb5 HA2 HQH c0 c1 c2 c3 c4 c5 c6 cz s3 hwr
  go_wp2_with fail
  refine (HOF.out _ HB5.out).mono ?_
  rintro e w5 ⟨rfl, hb6⟩
  have hb7 := HB5.out.trans (hb6.mono HB5.out.size)
  have HB7 := hid hb7
  clear hb6 hb7 HOF
  obtain ⟨x1, x2, x3⟩ := HX.out
  have l1 := HLE.out (fun y => decide (y ≤ x))
  have l2 := HLE.out (fun y => decide (y < x))
  have HU1 := hid (HUP.out x _ HB7.out)
  have HB1' := hid (HBE.out x _ HB7.out)
  have HI1 := hid (HIN.out x _ HB7.out)
  rw [decide_eq_true x1] at HI1
  generalize wFilter (fun y => decide (y ≤ x)) sd.xs sd.ws = u1 at *
  generalize wFilter (fun y => decide (y < x)) sd.xs sd.ws = u2 at *
  have f1 : decide ((1 : Int) + (pk : Int) - (es : Int) ≤ (u1 : Int)) = true := decide_eq_true (by omega)
  have f2 : decide ((u2 : Int) ≤ (1 : Int) + (pk : Int) - 1 + (es : Int)) = true := decide_eq_true (by omega)
  clear HX x1 HLE HUP HBE HIN
  go_wp2_with (first | (go_at_call 42; refine HI1.out.mono ?_; rintro e w' ⟨rfl, hw⟩; obtain rfl := hw.symm) | (go_at_call 40; refine HU1.out.mono ?_; rintro e w' ⟨rfl, hw⟩; obtain rfl := hw.symm) | (go_at_call 43; refine HB1'.out.mono ?_; rintro e w' ⟨rfl, hw⟩; obtain rfl := hw.symm))
  go_ret
  exact ⟨by simp, HB7.out⟩

theorem found_any (p d i : Nat) (q : Int) (ps : Nat → Nat) (W : Wd) (w : World) (h : WdSt K w0 w p d 3 ps W) (hi : i < 3) (hm : MInv W) (hq : InRange q) :
    Calls Try.prog 18 #[.pointer (some ⟨p, 0, none⟩), .int .i64 (i : Int), .int .i64 q] w fun e w' => e = .returned (.bool true) ∧ Below w.heap.size w w' := by
  by_cases hz : (W.sd i).n = 0
  · exact found_zero p d i q ps W w h hi hm hz
  · exact found_some p d i q ps W w h hi hm hq hz

end Go.Proofs.Ytklicjbpjigfdaa
