/- DERIVED. The box of the statement Once in memory, beside its world; the walk of take where the report is refused. -/
import Derived.Test.YtklicjbpjigfdabTakeJ
import Derived.Test.YtklicjbpjigfdabMc
import Derived.Test.YtklicjbpjigfdabNa
import Derived.Deep.RegionHeld3
import Derived.Test.YtklicjbpjigfdabMq
import Derived.Test.YtklicjbpjigfdabMr
namespace Go.Proofs.Ytklicjbpjigfdab
open Go.RowKit
attribute [local go_sem ↓] Go.wp_at_zero Go.wp_at_succ
variable {K : Nat → Prop} {w0 : World}

/-- The sender and the number of report r. -/
def sndOf (a r : Nat) : Nat := if r = 2 then a + 1 else a
def seqOf (n r : Nat) : Nat := if r = 1 then n + 1 else n

/-- Where the box lies. -/
structure Bx where
  bb : Nat
  gt : Nat
  ct : Nat
  ga : Nat
  gn : Nat
  gk : Nat
/-- The box in memory: the texts T, the senders and the numbers out of a and n, which were taken. -/
structure BoxAt (K : Nat → Prop) (w : World) (B : Bx) (p : Nat) (T : Nat → ByteArray) (a n : Nat) (tk : Nat → Bool) : Prop where
  blk : w.heap[B.bb]? = some (.cells #[.pointer (some ⟨p, 0, none⟩), .slice (some ⟨B.gt, 0, none⟩) 3 B.ct, .slice (some ⟨B.ga, 0, none⟩) 3 3, .slice (some ⟨B.gn, 0, none⟩) 3 3, .slice (some ⟨B.gk, 0, none⟩) 3 3] 115 (0, 0))
  txt : ∀ r, r < 3 → w.cell? ⟨B.gt, r, none⟩ = some (.string (T r))
  ltt : B.gt < w.heap.size
  snd : w.heap[B.ga]? = some (.cells #[.int .i64 (a : Int), .int .i64 (a : Int), .int .i64 ((a + 1 : Nat) : Int)] 3 (0, 0))
  seq : w.heap[B.gn]? = some (.cells #[.int .i64 (n : Int), .int .i64 ((n + 1 : Nat) : Int), .int .i64 (n : Int)] 3 (0, 0))
  tkn : w.heap[B.gk]? = some (.cells #[.bool (tk 0), .bool (tk 1), .bool (tk 2)] 4 (0, 0))
  kb : K B.bb
  kt : K B.gt
  ka : K B.ga
  kn : K B.gn
  kk : K B.gk

theorem BoxAt.keep {w w' : World} {B : Bx} {p a n : Nat} {T : Nat → ByteArray} {tk : Nat → Bool} (h : BoxAt K w B p T a n tk) (hk : Keeps K w w') : BoxAt K w' B p T a n tk :=
  ⟨(hk.block _ h.kb).trans h.blk, fun r hr => by
    have := h.txt r hr
    have e := hk.block _ h.kt
    simp only [World.cell?, e] at this ⊢
    exact this, Nat.lt_of_lt_of_le h.ltt hk.size, (hk.block _ h.ka).trans h.snd, (hk.block _ h.kn).trans h.seq, (hk.block _ h.kk).trans h.tkn, h.kb, h.kt, h.ka, h.kn, h.kk⟩

/-- The statement's world with its box; what K0 names is as it was in w0. -/
def BxSt (K0 : Nat → Prop) (w0 w : World) (B : Bx) (p d : Nat) (ps : Nat → Nat) (W : Wd) (T : Nat → ByteArray) (a n : Nat) (tk : Nat → Bool) : Prop :=
  ∃ K w1, WdSt K w1 w p d 4 ps W ∧ BoxAt K w1 B p T a n tk ∧ (∀ b, K0 b → K b) ∧ Keeps K0 w0 w1

theorem WdSt.keeps' {w : World} {p d m : Nat} {ps : Nat → Nat} {W : Wd} (h : WdSt K w0 w p d m ps W) : Keeps K w0 w := by
  obtain ⟨own, vs, vx, vw, _, _, h⟩ := h; exact h
theorem BxSt.box {K0 : Nat → Prop} {w : World} {B : Bx} {p d : Nat} {ps : Nat → Nat} {W : Wd} {T : Nat → ByteArray} {a n : Nat} {tk : Nat → Bool} (h : BxSt K0 w0 w B p d ps W T a n tk) : ∃ K', BoxAt K' w B p T a n tk := by
  obtain ⟨K, w1, h1, h2, h3, h4⟩ := h
  exact ⟨K, h2.keep h1.keeps'⟩
/-- Go on inside: what leaves the world's frame alone leaves the box alone. -/
theorem BxSt.use {K0 : Nat → Prop} {w : World} {B : Bx} {p d : Nat} {ps : Nat → Nat} {W : Wd} {T : Nat → ByteArray} {a n : Nat} {tk : Nat → Bool} (h : BxSt K0 w0 w B p d ps W T a n tk) :
    ∃ K w1, WdSt K w1 w p d 4 ps W ∧ ∀ w' W', WdSt K w1 w' p d 4 ps W' → BxSt K0 w0 w' B p d ps W' T a n tk := by
  obtain ⟨K, w1, h1, h2, h3, h4⟩ := h
  exact ⟨K, w1, h1, fun w' W' h => ⟨K, w1, h, h2, h3, h4⟩⟩
theorem BxSt.below {K0 : Nat → Prop} {w w' : World} {B : Bx} {p d : Nat} {ps : Nat → Nat} {W : Wd} {T : Nat → ByteArray} {a n : Nat} {tk : Nat → Bool} (h : BxSt K0 w0 w B p d ps W T a n tk) (hb : Below w.heap.size w w') : BxSt K0 w0 w' B p d ps W T a n tk := by
  obtain ⟨K, w1, h1, h2, h3, h4⟩ := h
  exact ⟨K, w1, h1.below hb, h2, h3, h4⟩
theorem BxSt.drew {K0 : Nat → Prop} {w : World} {B : Bx} {p d : Nat} {ps : Nat → Nat} {W : Wd} {T : Nat → ByteArray} {a n : Nat} {tk : Nat → Bool} (h : BxSt K0 w0 w B p d ps W T a n tk) : BxSt K0 w0 w.drew B p d ps W T a n tk := h.below ⟨rfl, rfl, rfl, Nat.le_refl _, fun _ _ => rfl⟩

theorem BoxAt.sndr {w : World} {B : Bx} {p a n : Nat} {T : Nat → ByteArray} {tk : Nat → Bool} (h : BoxAt K w B p T a n tk) {r : Nat} (hr : r < 3) : w.cell? ⟨B.ga, r, none⟩ = some (.int .i64 (sndOf a r : Int)) ∧ w.cell? ⟨B.gn, r, none⟩ = some (.int .i64 (seqOf n r : Int)) ∧ w.cell? ⟨B.gk, r, none⟩ = some (.bool (tk r)) := by
  have e1 := h.snd
  have e2 := h.seq
  have e3 := h.tkn
  have : r = 0 ∨ r = 1 ∨ r = 2 := by omega
  rcases this with rfl | rfl | rfl <;> simp [World.cell?, e1, e2, e3, sndOf, seqOf]

/-- Report r is ticked off. -/
theorem BxSt.tick {K0 : Nat → Prop} {w : World} {B : Bx} {p d : Nat} {ps : Nat → Nat} {W : Wd} {T : Nat → ByteArray} {a n r : Nat} {tk : Nat → Bool} (h : BxSt K0 w0 w B p d ps W T a n tk) (hK0 : ¬ K0 B.gk) (hr : r < 3) :
    BxSt K0 w0 (w.setCell ⟨B.gk, r, none⟩ (.bool true)) B p d ps W T a n (fun j => if j = r then true else tk j) := by
  obtain ⟨K, w1, h1, h2, h3, h4⟩ := h
  have h5 := h2.keep h1.keeps'
  have hkp := h1.keeps'
  obtain ⟨own, vs, vx, vw, h, h2K, hk⟩ := h1
  have hother : ∀ b, b ≠ B.gk → (w.setCell ⟨B.gk, r, none⟩ (.bool true)).heap[b]? = w.heap[b]? := fun b hb => Below.heap_setCell _ _ _ _ hb
  have hW : WdAt own (w.setCell ⟨B.gk, r, none⟩ (.bool true)) p d 4 W ps vs vx vw := h.keep (by rw [setCell_size]; exact Nat.le_refl _) (fun b hb => hother b (fun e => hb (by rw [e]; exact (h2K _ h2.kk).1)))
  have hne : ∀ (b : Nat) (c : Array Value) (t : TypeId) (fr : Nat × Nat), w.heap[b]? = some (.cells c t fr) → t ≠ 4 → b ≠ B.gk := by
    intro b c t fr hb ht e
    rw [e, h5.tkn] at hb; cases hb; exact ht rfl
  have hgt : B.gt ≠ B.gk := by
    intro e
    have e1 := h5.txt 0 (by omega)
    rw [e] at e1
    simp [World.cell?, h5.tkn] at e1
  refine ⟨K, w.setCell ⟨B.gk, r, none⟩ (.bool true), ⟨own, vs, vx, vw, hW, fun b hb => ⟨(h2K b hb).1, by rw [setCell_size]; exact Nat.lt_of_lt_of_le (h2K b hb).2 hk.size⟩, Keeps.refl _ _⟩, ?_, h3, ?_⟩
  · refine ⟨(hother _ (hne _ _ _ _ h5.blk (by decide))).trans h5.blk, fun r' hr' => ?_, by rw [setCell_size]; exact h5.ltt, (hother _ (hne _ _ _ _ h5.snd (by decide))).trans h5.snd, (hother _ (hne _ _ _ _ h5.seq (by decide))).trans h5.seq, ?_, h5.kb, h5.kt, h5.ka, h5.kn, h5.kk⟩
    · have e1 := h5.txt r' hr'
      have e2 := hother _ hgt
      simp only [World.cell?, e2] at e1 ⊢
      exact e1
    · have := blk_set (i := r) (.bool true) h5.tkn
      have e : r = 0 ∨ r = 1 ∨ r = 2 := by omega
      rcases e with rfl | rfl | rfl <;> simpa using this
  · refine ⟨hkp.os.trans h4.os, hkp.tape.trans h4.tape, hkp.output.trans h4.output, ?_, fun b hb => ?_⟩
    · rw [setCell_size]; exact Nat.le_trans h4.size hkp.size
    · rw [hother b (fun e => hK0 (by rw [← e]; exact hb)), hkp.block b (h3 b hb), h4.block b hb]

theorem blk5 {w : World} {r : Nat} {a b c d x : Value} {e : TypeId} (h : w.heap[r]? = some (.cells #[a, b, c, d, x] e (0, 0))) :
    w.cell? ⟨r, 0, none⟩ = some a ∧ w.cell? ⟨r, 1, none⟩ = some b ∧ w.cell? ⟨r, 2, none⟩ = some c ∧ w.cell? ⟨r, 3, none⟩ = some d ∧ w.cell? ⟨r, 4, none⟩ = some x ∧ (∀ o, w.frozen? ⟨r, o, none⟩ = false) := by
  simp [World.cell?, World.frozen?, h]

set_option maxHeartbeats 1000000 in
set_option maxRecDepth 100000 in
/-- take, where Take refuses the report for something else than coins. -/
theorem btake_no (B : Bx) (p d r : Nat) (c : Int) (ps : Nat → Nat) (W : Wd) (T : Nat → ByteArray) (a n : Nat) (tk : Nat → Bool) (t : ByteArray) (w : World) (h : BxSt K w0 w B p d ps W T a n tk) (hr : r < 3) (htp : W.D.tape = []) (hc : c ≠ 7)
    (HT : ∀ w', Below w.heap.size w w' → Calls Try.prog 78 #[.pointer (some ⟨d, 0, none⟩), .int .i64 3, .int .i64 (sndOf a r : Int), .int .i64 (seqOf n r : Int), .string t] w' fun e w2 => e = .returned (.int .i64 c) ∧ Below w'.heap.size w' w2) :
    Calls Try.prog 54 #[.pointer (some ⟨B.bb, 0, none⟩), .int .i64 (r : Int), .string t] w fun e w' => e = .returned (.tuple #[.int .i64 c, .bool true]) ∧ Below w.heap.size w w' := by
  obtain ⟨K', hbx⟩ := h.box
  obtain ⟨K2, w2, hst, _⟩ := h.use
  have HST := hid hst
  obtain ⟨own, vs, vx, vw, hwd, _, _⟩ := hst
  obtain ⟨s0, _, _, _, _, _, _, _⟩ := blk7 hwd.blk
  have hpz := lt_of_blk' hwd.blk
  obtain ⟨b0, b1, b2, b3, b4, bz⟩ := blk5 hbx.blk
  obtain ⟨r0, r1, _⟩ := hbx.sndr hr
  have hbz := lt_of_blk' hbx.blk
  have haz := lt_of_blk' hbx.snd
  have hnz := lt_of_blk' hbx.seq
  have hs1 : (0 : Int) ≤ (r : Int) := by omega
  have hs2 : (r : Int) < 3 := by omega
  have HTK := hid HT
  have HTP := hid htp
  have HCL := hid (fun (w' : World) (hb : Below w.heap.size w w') => clean_any p d 4 ps W w' (HST.out.below hb))
  have hc' : (c == 7) = false := by simpa using hc
  clear hwd hbx h HT htp
  generalize sndOf a r = sa at *
  generalize seqOf n r = sn at *
  go_enter Try.func54, Try.ntmps54
  go_wp2_with fail
  go_loopw [8] (fun si wr => si = .int .i64 0 ∧ wr = w) (fun si _ => 256 - (intOf si).toNat)
  case atStart => exact ⟨rfl, rfl⟩
  case round =>
    obtain ⟨rfl, hw⟩ := hrel
    obtain rfl := hw.symm
    go_wp2_with fail
    go_region_held3 (fun w' => w'.cell? ⟨B.bb, 0, none⟩ = some (.pointer (some ⟨p, 0, none⟩)) ∧ w'.cell? ⟨p, 0, none⟩ = some (.pointer (some ⟨d, 0, none⟩)) ∧ w'.cell? ⟨B.bb, 2, none⟩ = some (.slice (some ⟨B.ga, 0, none⟩) 3 3) ∧ w'.cell? ⟨B.bb, 3, none⟩ = some (.slice (some ⟨B.gn, 0, none⟩) 3 3) ∧ w'.cell? ⟨B.ga, r, none⟩ = some (.int .i64 (sa : Int)) ∧ w'.cell? ⟨B.gn, r, none⟩ = some (.int .i64 (sn : Int))) (first | go_keep | exact ⟨(hb1'.cell (by exact hbz)).trans b0, (hb1'.cell (by exact hpz)).trans s0, (hb1'.cell (by exact hbz)).trans b2, (hb1'.cell (by exact hbz)).trans b3, (hb1'.cell (by exact haz)).trans r0, (hb1'.cell (by exact hnz)).trans r1⟩) (first | (go_at_call 78; refine (HTK.out _ (bdrewT (Below.refl _ _))).mono ?_; rintro e w1 ⟨rfl, hb1'⟩))
    have hB1 := undrew hb1'
    have p0 := (hB1.cell (p := ⟨B.bb, 0, none⟩) hbz).trans b0
    have hz1 : B.bb < w1.heap.size := Nat.lt_of_lt_of_le hbz hB1.size
    have HB1 := hid hB1
    have HC1 := hid (HCL.out _ hB1)
    clear hB1 hb1' b0 b1 b2 b3 b4 bz s0 r0 r1
    go_wp2_with (first | (go_at_call 72; refine HC1.out.mono ?_; rintro e w' ⟨rfl, hw⟩; obtain rfl := hw.symm))
    go_ret2
    refine ⟨?_, HB1.out⟩
    rw [HTP.out]
    rfl

end Go.Proofs.Ytklicjbpjigfdab

/- DERIVED. The walk of the box's take where the report comes in, or the sketch is full. -/
namespace Go.Proofs.Ytklicjbpjigfdab
open Go.RowKit
attribute [local go_sem ↓] Go.wp_at_zero Go.wp_at_succ
variable {K : Nat → Prop} {w0 : World}

/-- The world behind a report that came in; the side is not told yet. -/
def Wd.takes (W : Wd) (r : Nat) (L' : List Lvl) (u a' : Nat) (sa sn : Nat) : Wd :=
  { W with D := { W.D with tape := [], sks := W.D.sks.set 3 ((W.D.sks.getD 3 Hd.none).reported (W.D.sks.getD r Hd.none) L' (sa : Int) (sn : Int)) }, used := W.used + u, at_ := a' }
/-- What take leaves. -/
def TakePost (K : Nat → Prop) (w0 : World) (B : Bx) (p d r : Nat) (ps : Nat → Nat) (W : Wd) (T : Nat → ByteArray) (a n : Nat) (tk : Nat → Bool) (e : Ending) (w' : World) : Prop :=
  (268435456 < wsum (W.D.sks.getD 3 Hd.none).sk.lv + wsum (W.D.sks.getD r Hd.none).sk.lv ∧ e = .returned (.tuple #[.int .i64 6, .bool true]) ∧ BxSt K w0 w' B p d ps W T a n tk) ∨
  (wsum (W.D.sks.getD 3 Hd.none).sk.lv + wsum (W.D.sks.getD r Hd.none).sk.lv ≤ 268435456 ∧ e = .returned (.tuple #[.int .i64 0, .bool true]) ∧ ∃ cs L' a', DrawOk W cs a' ∧ settle (mgK (W.D.sks.getD 3 Hd.none) (W.D.sks.getD r Hd.none)) cs 0 (mgL (W.D.sks.getD 3 Hd.none) (W.D.sks.getD r Hd.none)) = some (L', cs.length) ∧ cs.length ≤ 230 ∧ BxSt K w0 w' B p d ps (W.takes r L' cs.length a' (sndOf a r) (seqOf n r)) T a n tk)

theorem take_fr {F : Nat → Prop} {d i : Nat} {D : Dk} {df : Hd} {a b : Int} {e : Ending} {w w' : World} {c : Prop} [Decidable c] {o : Option (List Lvl × Nat)} (h : if c then takeAns F d i D df a b e w w' o else e = .returned (.int .i64 6) ∧ Below w.heap.size w w') : Fr F w w' := by
  split at h
  · cases o with
    | none => exact Fr.below h.2
    | some p => obtain ⟨_, F', h1, h2, h3⟩ := h; exact h3
  · exact Fr.below h.2
theorem take_form {F : Nat → Prop} {d i : Nat} {D : Dk} {df : Hd} {a b : Int} {e : Ending} {w w' : World} {c : Prop} [Decidable c] {o : Option (List Lvl × Nat)} (h : if c then takeAns F d i D df a b e w w' o else e = .returned (.int .i64 6) ∧ Below w.heap.size w w') : ∃ v : Int, e = .returned (.int .i64 v) := by
  split at h
  · cases o with
    | none => exact ⟨7, h.1⟩
    | some p => exact ⟨0, h.1⟩
  · exact ⟨6, h.1⟩

set_option maxHeartbeats 2000000 in
set_option maxRecDepth 100000 in
theorem btake_in (B : Bx) (p d r : Nat) (ps : Nat → Nat) (W : Wd) (T : Nat → ByteArray) (a n : Nat) (tk : Nat → Bool) (t : ByteArray) (w : World) (h : BxSt K w0 w B p d ps W T a n tk) (hr : r < 3) (hm : MInvM 4 W) (hsz : t.size ≤ 140737488355328) (hit : isText (bytesOf t) = true) (htold : toldS (bytesOf t) = (W.D.sks.getD r Hd.none).sk) (htk : tookB (W.D.sks.getD 3 Hd.none).taken (sndOf a r : Int) (seqOf n r : Int) = false) (hrm : (W.D.sks.getD 3 Hd.none).taken.length < 64) (ha : a < 255) :
    Calls Try.prog 54 #[.pointer (some ⟨B.bb, 0, none⟩), .int .i64 (r : Int), .string t] w fun e w' => TakePost K w0 B p d r ps W T a n tk e w' := by
  have hsa : sndOf a r ≤ 255 := by unfold sndOf; split <;> omega
  have ci := hm.came 3 (by omega)
  have cj := hm.came r (by omega)
  have hat := hm.at_
  have hcs := hm.coins
  have hus := hm.small (by omega)
  have CI := hid ci
  have CJ := hid cj
  have HUN := hid (hm.uns 3 (by omega))
  have HTP := hid hm.tape
  have HL := hid hm.len
  have HMO := hid hm.most
  have HB := hid (merge_few ci.inok.ok cj.inok.ok ci.inok.set cj.inok.set)
  have HTS : Hid (tsum (W.D.sks.getD 3 Hd.none).sk.lv + tsum (W.D.sks.getD r Hd.none).sk.lv ≤ 549755813888) := by
    have := ci.tn; have := cj.tn; have := ci.inok.ok.cnt; have := cj.inok.ok.cnt
    unfold Hid; omega
  have HOK2 : Hid (Hd.Ok ⟨toldS (bytesOf t), false, []⟩) := by
    rw [htold]
    have := cj.inok.ok
    exact ⟨this.k1, this.k2, this.len1, this.len, this.cnt, this.tms⟩
  have HST := hid h
  have HTO := hid htold
  have HIT := hid hit
  have HTK := hid htk
  have hs1 : (0 : Int) ≤ (r : Int) := by omega
  have hs2 : (r : Int) < 3 := by omega
  clear h hm ci cj htold hit htk
  go_enter Try.func54, Try.ntmps54
  go_wp2_with fail
  go_loopw [8] (fun si wr => ∃ (cs : List Bool) (a' : Nat), si = .int .i64 (cs.length : Int) ∧ Hid (DrawOk W cs a') ∧ cs.length ≤ 230 ∧ Hid (BxSt K w0 wr B p d ps { W with D := { W.D with tape := cs }, used := W.used + cs.length, at_ := a' } T a n tk) ∧
      Hid ((cs = [] ∧ a' = W.at_) ∨ (wsum (W.D.sks.getD 3 Hd.none).sk.lv + wsum (W.D.sks.getD r Hd.none).sk.lv ≤ 268435456 ∧ ∃ cs' c, cs = cs' ++ [c] ∧ settle (mgK (W.D.sks.getD 3 Hd.none) (W.D.sks.getD r Hd.none)) cs' 0 (mgL (W.D.sks.getD 3 Hd.none) (W.D.sks.getD r Hd.none)) = Option.none))) (fun si _ => 256 - (intOf si).toNat)
  case atStart =>
    refine ⟨[], W.at_, rfl, ⟨hat, rfl, rfl⟩, Nat.zero_le _, ?_, .inl ⟨rfl, rfl⟩⟩
    have := HST.out
    rw [wd_eta HTP.out] at this
    exact this
  case round =>
    obtain ⟨cs, a', rfl, hda, hc29, Hst, Hcs⟩ := hrel
    obtain ⟨K', hbx⟩ := Hst.out.box
    obtain ⟨K2, w2, hst, huse⟩ := Hst.out.use
    have HW2 := hid hst
    have HUSE := hid huse
    obtain ⟨K3, w3, hst3, hbx3, hK3, hk3⟩ := Hst.out
    obtain ⟨own1, vs1, vx1, vw1, h1, h2K1, hk1⟩ := hst3
    obtain ⟨d0, d1, d2, d3, d4, d5, d6, dz⟩ := blk7 h1.blk
    have hpz := lt_of_blk' h1.blk
    obtain ⟨b0, b1, b2, b3, b4, bz⟩ := blk5 hbx.blk
    obtain ⟨r0, r1, _⟩ := hbx.sndr hr
    have hbz := lt_of_blk' hbx.blk
    have haz := lt_of_blk' hbx.snd
    have hnz := lt_of_blk' hbx.seq
    have nb : own1 B.bb ≠ 1 := by rw [(h2K1 _ hbx3.kb).1]; omega
    have na : own1 B.ga ≠ 1 := by rw [(h2K1 _ hbx3.ka).1]; omega
    have nn : own1 B.gn ≠ 1 := by rw [(h2K1 _ hbx3.kn).1]; omega
    have np : own1 p ≠ 1 := by rw [h1.op]; omega
    have hA := hid (fun (w' : World) (hb : Below wr.heap.size wr w') => dtake_in (F := fun b => own1 b = 1) d 3 { W.D with tape := cs } (sndOf a r : Int) (seqOf n r : Int) t w' (h1.desk.below hb) (by show 3 < W.D.sks.length; rw [HL.out]; omega) HUN.out (by omega) (by omega) (by omega) (by show (W.D.sks.getD 3 Hd.none).taken.length ≤ _; omega) HTK.out hsz HIT.out hrm CI.out.inok.ok HOK2.out (by rw [HTO.out]; exact HTS.out) (by show cs.length ≤ 1024; omega))
    have HBACK : Hid (∀ (w1 : World) (D' : Dk), DeskStep (fun b => own1 b = 1) wr w1 d D' → BxSt K w0 w1 B p d ps { W with D := D', used := W.used + cs.length, at_ := a' } T a n tk) := fun w1 D' hs => ⟨K3, w3, h1.deskStep h2K1 hk1 hs, hbx3, hK3, hk3⟩
    clear h1 h2K1 hk1 hst huse hbx hbx3 hK3 hk3 d1 d2 d3 d4 d5 d6 dz
    rw [HTO.out] at hA
    generalize hsar : sndOf a r = sa at *
    generalize hsnr : seqOf n r = sn at *
    go_wp2_with fail
    go_region_held3 (fun w' => w'.cell? ⟨B.bb, 0, none⟩ = some (.pointer (some ⟨p, 0, none⟩)) ∧ w'.cell? ⟨p, 0, none⟩ = some (.pointer (some ⟨d, 0, none⟩)) ∧ w'.cell? ⟨B.bb, 2, none⟩ = some (.slice (some ⟨B.ga, 0, none⟩) 3 3) ∧ w'.cell? ⟨B.bb, 3, none⟩ = some (.slice (some ⟨B.gn, 0, none⟩) 3 3) ∧ w'.cell? ⟨B.ga, r, none⟩ = some (.int .i64 (sa : Int)) ∧ w'.cell? ⟨B.gn, r, none⟩ = some (.int .i64 (sn : Int))) (first | go_keep | exact ⟨(cell_of_blk (hfr.block _ hbz nb)).trans b0, (cell_of_blk (hfr.block _ hpz np)).trans d0, (cell_of_blk (hfr.block _ hbz nb)).trans b2, (cell_of_blk (hfr.block _ hbz nb)).trans b3, (cell_of_blk (hfr.block _ haz na)).trans r0, (cell_of_blk (hfr.block _ hnz nn)).trans r1⟩) (first | (go_at_call 78; refine (hA.out _ (bdrewT (Below.refl _ _))).mono ?_; intro e w1 hans; have hfr := fr_undrew (take_fr hans); obtain ⟨v, rfl⟩ := take_form hans))
    have p0 := (cell_of_blk (o := 0) (hfr.block _ hbz nb)).trans b0
    have hz1 : B.bb < w1.heap.size := Nat.lt_of_lt_of_le hbz hfr.size
    clear b0 b1 b2 b3 b4 bz r0 r1 d0 hbz haz hnz nb na nn np hA hpz
    by_cases hfull : wsum (W.D.sks.getD 3 Hd.none).sk.lv + wsum (W.D.sks.getD r Hd.none).sk.lv ≤ 268435456
    · have HFU := hid hfull
      cases hset : settle (mgK (W.D.sks.getD 3 Hd.none) (W.D.sks.getD r Hd.none)) cs 0 (mgL (W.D.sks.getD 3 Hd.none) (W.D.sks.getD r Hd.none)) with
      | none =>
        have hans' : Ending.returned (.int .i64 v) = .returned (.int .i64 7) ∧ Below wr.heap.size wr w1 := by
          have h9 := hans
          rw [if_pos hfull] at h9
          have e : settle (mgK (W.D.sks.getD 3 Hd.none) ⟨(W.D.sks.getD r Hd.none).sk, false, []⟩) cs 0 (mgL (W.D.sks.getD 3 Hd.none) ⟨(W.D.sks.getD r Hd.none).sk, false, []⟩) = Option.none := hset
          rw [e] at h9
          exact ⟨h9.1, undrew h9.2⟩
        obtain ⟨ev, hb1⟩ := hans'
        cases ev
        have HSET := hid hset
        have hb9 := settle_none_bound hset
        have hcn : cs.length < 230 := by have := HB.out; omega
        have hst1 := HW2.out.below hb1
        have HM := hid (more_any p d 4 ps _ w1 hst1 hda.out.1 hcs HMO.out (by show W.used + cs.length ≤ _; omega) (by show cs.length < 1024; omega))
        clear hans hset hb1 hst1 hfull hfr
        go_wp2_with fail
        refine HM.out.mono ?_
        rintro e w5 ⟨c, a2, rfl, ha2, hst2⟩
        have HA2 := hid ha2
        clear ha2
        have HS2 := hid (HUSE.out _ _ hst2)
        clear hst2
        go_wp2_with fail
        go_roundw
        case rel =>
          refine ⟨cs ++ [c], a2, by simp, hda.out.snoc HA2.out, by simp; omega, ?_, .inr ⟨HFU.out, cs, c, rfl, HSET.out⟩⟩
          have := HS2.out
          simpa [Hid, Nat.add_assoc] using this
        case measure => simp [intOf]; omega
      | some q =>
        obtain ⟨L', u⟩ := q
        have hans' : Ending.returned (.int .i64 v) = .returned (.int .i64 0) ∧ DeskStep (fun b => own1 b = 1) wr w1 d { W.D with tape := cs.drop u, sks := W.D.sks.set 3 ((W.D.sks.getD 3 Hd.none).reported (W.D.sks.getD r Hd.none) L' (sa : Int) (sn : Int)) } := by
          have h9 := hans
          rw [if_pos hfull] at h9
          have e : settle (mgK (W.D.sks.getD 3 Hd.none) ⟨(W.D.sks.getD r Hd.none).sk, false, []⟩) cs 0 (mgL (W.D.sks.getD 3 Hd.none) ⟨(W.D.sks.getD r Hd.none).sk, false, []⟩) = some (L', u) := hset
          rw [e] at h9
          obtain ⟨e1, F', h1, h2, h3⟩ := h9
          exact ⟨e1, F', h1, h2, fr_undrew h3⟩
        obtain ⟨ev, hst1⟩ := hans'
        cases ev
        have hu : u = cs.length := by
          rcases Hcs.out with ⟨e, _⟩ | ⟨_, cs', c, e, e2⟩
          · subst e; have := settle_used hset; simp at this; simpa using this
          · rw [e] at hset
            have := settle_last e2 hset
            rw [e]; simp; omega
        subst hu
        rw [List.drop_length] at hst1
        have hw1 := HBACK.out w1 _ hst1
        have HSET := hid hset
        have HW1 := hid hw1
        obtain ⟨K9, w9, hst9, _⟩ := hw1.use
        have HCL := hid (clean_any p d 4 ps _ w1 hst9)
        clear hans hset hst1 hw1 hst9 hfull hfr
        go_wp2_with (first | (go_at_call 72; refine HCL.out.mono ?_; rintro e w' ⟨rfl, hw⟩; obtain rfl := hw.symm))
        go_ret2
        refine .inr ⟨HFU.out, rfl, cs, L', a', hda.out, HSET.out, hc29, ?_⟩
        have e := HW1.out
        rw [← hsar, ← hsnr] at e
        exact e
    · have hans' : Ending.returned (.int .i64 v) = .returned (.int .i64 6) ∧ Below wr.heap.size wr w1 := by
        have h9 := hans
        rw [if_neg hfull] at h9
        exact ⟨h9.1, undrew h9.2⟩
      obtain ⟨ev, hb1⟩ := hans'
      cases ev
      have hcs0 : cs = [] ∧ a' = W.at_ := by
        rcases Hcs.out with e | e
        · exact e
        · exact absurd e.1 hfull
      obtain ⟨hc0, ha0⟩ := hcs0
      subst hc0
      have hw1 := Hst.out.below hb1
      obtain ⟨K9, w9, hst9, _⟩ := hw1.use
      have HCL := hid (clean_any p d 4 ps _ w1 hst9)
      have HW1 : Hid (BxSt K w0 w1 B p d ps W T a n tk) := by
        have e := hw1
        rw [ha0, ← wd_eta HTP.out] at e
        exact e
      have HFU := hid hfull
      clear hans hw1 hst9 hfull hfr hb1 ha0
      go_wp2_with (first | (go_at_call 72; refine HCL.out.mono ?_; rintro e w' ⟨rfl, hw⟩; obtain rfl := hw.symm))
      go_ret2
      exact .inl ⟨by have := HFU.out; omega, rfl, HW1.out⟩

end Go.Proofs.Ytklicjbpjigfdab

/- DERIVED. What goes on holding while reports come into sketch 3. -/
namespace Go.Proofs.Ytklicjbpjigfdab
open Go.RowKit

/-- Text t is sketch s's. -/
structure Letter (s : Sk) (t : ByteArray) : Prop where
  is : isText (bytesOf t) = true
  told : toldS (bytesOf t) = s
  bytes : bytesOf t = writeB s
  z1 : 1 ≤ t.size
  z2 : t.size ≤ 1099511627776
theorem letter_of {h : Hd} {s : Sd} (hc : Came h s) (hr : Roomy h.sk.k h.sk.lv) (hk : Kp h s) : Letter h.sk (txt (writeB h.sk)) := by
  have hsb := sound_of hc hr hk
  have hft := fits_of hc hk
  have e := bytesOf_txt (writeB_lt h.sk)
  have h11 := writeB_eleven h.sk hc.inok.ok.len1
  have hz : (txt (writeB h.sk)).size = (writeB h.sk).length := by rw [← bytesOf_length, e]
  have hsz : (writeB h.sk).length ≤ 1099511627776 := by
    have h1 := nsum_le h.sk.lv
    have h2 := hc.inok.ok.cnt
    have h3 := hc.inok.ok.len
    rw [writeB_length, bodyB_length]
    split <;> omega
  exact ⟨by rw [e]; exact is_text hft hsb, by rw [e]; exact told_write hft, e, by omega, by omega⟩
/-- One byte of it changed: it is no sketch's. -/
theorem Letter.marred {s : Sk} {t : ByteArray} (h : Letter s t) {i y : Nat} (hi : i < t.size) (hy : y < 256) (hne : y ≠ (bytesOf t).getD i 0) : isText (bytesOf (txt ((bytesOf t).set i y))) = false := by
  have hlt : ∀ x ∈ (bytesOf t).set i y, x < 256 := fun x hx => by
    rcases List.mem_or_eq_of_mem_set hx with h | h
    · exact bytesOf_lt t x h
    · omega
  rw [bytesOf_txt hlt, h.bytes]
  rw [h.bytes] at hne
  exact not_changed (by rw [← h.bytes, bytesOf_length]; exact hi) hy hne
theorem Letter.msize {s : Sk} {t : ByteArray} (h : Letter s t) {i y : Nat} (hy : y < 256) : (txt ((bytesOf t).set i y)).size ≤ 1099511627776 := by
  have hlt : ∀ x ∈ (bytesOf t).set i y, x < 256 := fun x hx => by
    rcases List.mem_or_eq_of_mem_set hx with h | h
    · exact bytesOf_lt t x h
    · omega
  rw [← bytesOf_length, bytesOf_txt hlt, List.length_set, bytesOf_length]
  exact h.z2

theorem Came.congr {h h' : Hd} {s : Sd} (e : h'.sk = h.sk) (c : Came h s) : Came h' s := by
  obtain ⟨sk, a, b⟩ := h
  obtain ⟨sk', a', b'⟩ := h'
  simp only at e
  subst e
  have o := c.inok.ok
  exact ⟨⟨⟨o.k1, o.k2, o.len1, o.len, o.cnt, o.tms⟩, c.inok.n, c.inok.set, c.inok.xl, c.inok.wl⟩, c.k, c.len, c.sum, c.lvok, c.tn, c.ends, c.pos⟩
/-- Of the sketches it asks what is kept, and that they are open. -/
theorem MInvM.congr {m : Nat} {W W' : Wd} (h : MInvM m W) (hl : W'.D.sks.length = m) (ht : W'.D.tape = []) (ha : W'.at_ = W.at_) (hc : W'.coins = W.coins) (hmo : W'.most = W.most) (hu : W'.used = W.used) (hsd : W'.sd = W.sd) (hsk : ∀ i, (W'.D.sks.getD i Hd.none).sk = (W.D.sks.getD i Hd.none).sk) (hsl : ∀ i, i < m → (W'.D.sks.getD i Hd.none).sealed = false) : MInvM m W' := by
  refine ⟨hl, ht, by rw [ha]; exact h.at_, by rw [hc]; exact h.coins, by rw [hmo]; exact h.most, ?_, fun i hi => by rw [hsd]; exact Came.congr (hsk i) (h.came i hi), fun i hi => by rw [hsk]; exact h.roomy i hi, fun i hi => by rw [hsk]; exact h.tall i hi, fun i hi q => by rw [hsk, hsd]; exact h.near i hi q, hsl⟩
  have := h.used
  simp only [hsk, hsd, hu]
  exact this

/-- How many were taken. -/
def tkN (tk : Nat → Bool) : Nat := (if tk 0 then 1 else 0) + (if tk 1 then 1 else 0) + (if tk 2 then 1 else 0)
/-- What goes on holding. -/
structure OInv (W : Wd) (T : Nat → ByteArray) (a n : Nat) (tk : Nat → Bool) : Prop where
  inv : MInvM 4 W
  mail : ∀ r, r < 3 → Letter (W.D.sks.getD r Hd.none).sk (T r)
  tkn : ∀ r, r < 3 → tookB (W.D.sks.getD 3 Hd.none).taken (sndOf a r : Int) (seqOf n r : Int) = tk r
  few : (W.D.sks.getD 3 Hd.none).taken.length ≤ tkN tk

theorem set3_at {l : List Hd} {j : Nat} {x : Hd} (hl : l.length = 4) : (l.set 3 x).getD j Hd.none = if j = 3 then x else l.getD j Hd.none := by
  by_cases e : j = 3
  · subst e
    rw [if_pos rfl]
    simp [List.getD, hl]
  · rw [if_neg e]
    simp only [List.getD]
    rw [List.getElem?_set_ne (Ne.symm e)]

theorem OInv.took {W : Wd} {T : Nat → ByteArray} {a n r a' : Nat} {tk : Nat → Bool} {cs : List Bool} {L' : List Lvl} (h : OInv W T a n tk) (hr : r < 3) (htk : tk r = false) (hf : wsum (W.D.sks.getD 3 Hd.none).sk.lv + wsum (W.D.sks.getD r Hd.none).sk.lv ≤ 268435456) (ha : a' ≤ 140737488355328)
    (hs : settle (mgK (W.D.sks.getD 3 Hd.none) (W.D.sks.getD r Hd.none)) cs 0 (mgL (W.D.sks.getD 3 Hd.none) (W.D.sks.getD r Hd.none)) = some (L', cs.length)) (hcs : cs.length ≤ 230) :
    OInv ((W.takes r L' cs.length a' (sndOf a r) (seqOf n r)).side 3 ((W.sd 3).all (W.sd r))) T a n (fun j => if j = r then true else tk j) := by
  have hl := h.inv.len
  have hj := minv_joined h.inv (show 3 < 4 by omega) (show r < 4 by omega) hf ha hs hcs
  have hat : ∀ j, (((W.takes r L' cs.length a' (sndOf a r) (seqOf n r)).side 3 ((W.sd 3).all (W.sd r))).D.sks.getD j Hd.none) = if j = 3 then (W.D.sks.getD 3 Hd.none).reported (W.D.sks.getD r Hd.none) L' (sndOf a r : Int) (seqOf n r : Int) else W.D.sks.getD j Hd.none := fun j => set3_at hl
  have hat2 : ∀ j, ((W.joined 3 r L' cs.length a').D.sks.getD j Hd.none).sk = (((W.takes r L' cs.length a' (sndOf a r) (seqOf n r)).side 3 ((W.sd 3).all (W.sd r))).D.sks.getD j Hd.none).sk := by
    intro j
    rw [hat]
    show ((W.D.sks.set 3 _).getD j Hd.none).sk = _
    rw [set3_at hl]
    by_cases e : j = 3
    · rw [if_pos e, if_pos e]; rfl
    · rw [if_neg e, if_neg e]
  refine ⟨hj.congr ?_ rfl rfl rfl rfl rfl rfl (fun i => (hat2 i).symm) (fun i hi => ?_), fun j hj3 => ?_, fun j hj3 => ?_, ?_⟩
  · show (W.D.sks.set 3 _).length = 4
    rw [List.length_set]; exact hl
  · rw [hat]
    by_cases e : i = 3
    · rw [if_pos e]; exact h.inv.uns 3 (by omega)
    · rw [if_neg e]; exact h.inv.uns i hi
  · rw [hat, if_neg (by omega)]; exact h.mail j hj3
  · rw [hat, if_pos rfl]
    show tookB ((W.D.sks.getD 3 Hd.none).taken ++ [((sndOf a r : Int).toNat, (seqOf n r : Int).toNat)]) _ _ = _
    have e := h.tkn j hj3
    unfold tookB at e ⊢
    rw [List.any_append, e]
    by_cases ej : j = r
    · subst ej; simp
    · rw [if_neg ej]
      have hne : ¬ (sndOf a r = sndOf a j ∧ seqOf n r = seqOf n j) := by
        have h1 : j = 0 ∨ j = 1 ∨ j = 2 := by omega
        have h2 : r = 0 ∨ r = 1 ∨ r = 2 := by omega
        rcases h1 with rfl | rfl | rfl <;> rcases h2 with rfl | rfl | rfl <;> simp [sndOf, seqOf] at ej ⊢
      have : (((sndOf a r : Nat) : Int) == ((sndOf a j : Nat) : Int) && ((seqOf n r : Nat) : Int) == ((seqOf n j : Nat) : Int)) = false := by
        rw [Bool.and_eq_false_iff]
        by_cases e1 : sndOf a r = sndOf a j
        · right
          have e2 : seqOf n r ≠ seqOf n j := fun e2 => hne ⟨e1, e2⟩
          simp; omega
        · left; simp; omega
      simp only [Int.toNat_natCast, List.any_cons, List.any_nil, this, Bool.or_false]
  · rw [hat, if_pos rfl]
    show ((W.D.sks.getD 3 Hd.none).taken ++ [_]).length ≤ _
    have := h.few
    have h2 : r = 0 ∨ r = 1 ∨ r = 2 := by omega
    unfold tkN at this ⊢
    rw [List.length_append, List.length_singleton]
    generalize (W.D.sks.getD 3 Hd.none).taken.length = z at *
    rcases h2 with rfl | rfl | rfl <;> simp [htk] at this ⊢ <;> omega
theorem OInv.fewer {W : Wd} {T : Nat → ByteArray} {a n : Nat} {tk : Nat → Bool} (h : OInv W T a n tk) : (W.D.sks.getD 3 Hd.none).taken.length < 64 := by
  have := h.few
  unfold tkN at this
  split at this <;> split at this <;> split at this <;> omega

end Go.Proofs.Ytklicjbpjigfdab
