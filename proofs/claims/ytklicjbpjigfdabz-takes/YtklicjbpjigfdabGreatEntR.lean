/- DERIVED. The walk of the document's own enter. -/
import Derived.Test.YtklicjbpjigfdabGreatBotR
import Derived.Test.YtklicjbpjigfdabGreatQ20
import Derived.Deep.CutBlock
import Derived.Deep.RegionHeld3
namespace Go.Proofs.YtklicjbpjigfdabGreat
open Go.RowKit
attribute [local go_sem ↓] Go.wp_at_zero Go.wp_at_succ
variable {G : Nat → Prop}

theorem below_drew {B : Nat} {w w' : World} (h : Below B w w') : Below B w w'.drew := ⟨h.os, h.tape, h.output, h.size, h.block⟩
theorem coins_extract {s : ByteArray} {u : Nat} : coinsOf (s.extract u s.size).data.toList = (coinsOf s.data.toList).drop u := by
  simp [coinsOf, ByteArray.data_extract, List.map_drop, List.take_of_length_le]
theorem are_extract {s : ByteArray} {u : Nat} (h : areCoins s.data.toList = true) : areCoins (s.extract u s.size).data.toList = true := by
  unfold areCoins at *
  rw [List.all_eq_true] at *
  intro c hc
  refine h c ?_
  simp [ByteArray.data_extract] at hc
  exact List.mem_of_mem_drop (List.mem_of_mem_take hc)

theorem RStep.drew {w0 w' : World} {d : Nat} {D' : Dk} (h : RStep G w0 w' d D') : RStep G w0 w'.drew d D' := by
  obtain ⟨G', ⟨s, va, rs, h⟩, h2, h3⟩ := h
  exact ⟨G', ⟨s, va, rs, ⟨h.blk, h.fd, h.coins, h.tape, h.row, h.frow, h.len, fun i hi => ⟨(h.sk i hi).bag, (h.sk i hi).bof, (h.sk i hi).tms, (h.sk i hi).tk, (h.sk i hi).ends⟩, h.fsk, h.flt⟩⟩, h2, ⟨h3.os, h3.tape, h3.output, h3.size, h3.block⟩⟩
theorem RStep.size {w0 w' : World} {d : Nat} {D' : Dk} (h : RStep G w0 w' d D') : w0.heap.size ≤ w'.heap.size := by
  obtain ⟨_, _, _, h3⟩ := h
  exact h3.size
theorem frozen_below {B : Nat} {w w' : World} (h : Below B w w') {b : Nat} (hb : b < B) (j : Nat) : w'.frozen? ⟨b, j, none⟩ = w.frozen? ⟨b, j, none⟩ := by simp [World.frozen?, h.block b hb]

/-- As far as enter has come: the sketch of both lies in block p. -/
structure EnSt (w0 we : World) (p k : Nat) (vb vt vk : Value) (lo hi : Int) (sl : Bool) (bag : List (Int × Nat)) (T : List Nat) : Prop where
  blk : we.heap[p]? = some (rsBlk k vb vt lo hi sl vk)
  bag : BagAt we vb bag
  tms : Ints we vt (nats T)
  bel : Below w0.heap.size w0 we
  fr : ∀ b, vb.ownBlock = some b ∨ vt.ownBlock = some b → w0.heap.size ≤ b

theorem cell_set7 {w : World} {p b j : Nat} (h : ¬ b = p) (a e c d x f g : Value) : (((((((w.setCell ⟨p, 0, none⟩ a).setCell ⟨p, 1, none⟩ e).setCell ⟨p, 2, none⟩ c).setCell ⟨p, 3, none⟩ d).setCell ⟨p, 4, none⟩ x).setCell ⟨p, 5, none⟩ f).setCell ⟨p, 6, none⟩ g).cell? ⟨b, j, none⟩ = w.cell? ⟨b, j, none⟩ := World.cell?_of_block (set7_other _ _ _ _ _ _ _ h)
theorem cell_al {w : World} {b j : Nat} (h : b < w.heap.size) (o : Obj) : (w.alloc o).cell? ⟨b, j, none⟩ = w.cell? ⟨b, j, none⟩ := World.cell?_of_block (Below.heap_alloc _ _ _ h)
theorem EnSt.stored {w0 w : World} {p k : Nat} {vb vt vk : Value} {lo hi : Int} {sl : Bool} {bag : List (Int × Nat)} {T : List Nat} (hz : w.heap[p]? = some rsZero) (hb : BagAt w vb bag) (ht : Ints w vt (nats T)) (hl : Below w0.heap.size w0 w) (hp : w0.heap.size ≤ p) (hfr : ∀ b, vb.ownBlock = some b ∨ vt.ownBlock = some b → w0.heap.size ≤ b) :
    EnSt w0 (((((((w.setCell ⟨p, 0, none⟩ (.int .i64 (k : Int))).setCell ⟨p, 1, none⟩ vb).setCell ⟨p, 2, none⟩ vt).setCell ⟨p, 3, none⟩ (.int .i64 lo)).setCell ⟨p, 4, none⟩ (.int .i64 hi)).setCell ⟨p, 5, none⟩ (.bool sl)).setCell ⟨p, 6, none⟩ vk) p k vb vt vk lo hi sl bag T :=
  ⟨set7_blk hz, ownsRow_block hb (fun x hx => set7_other _ _ _ _ _ _ _ (own_ne hb hz (by decide) x hx)), ownsRow_block ht (fun x hx => set7_other _ _ _ _ _ _ _ (own_ne ht hz (by decide) x hx)), below_set7 hl hp _ _ _ _ _ _ _, hfr⟩
theorem EnSt.made {w0 w : World} {k : Nat} {vb vt vk : Value} {lo hi : Int} {sl : Bool} {bag : List (Int × Nat)} {T : List Nat} (hb : BagAt w vb bag) (ht : Ints w vt (nats T)) (hl : Below w0.heap.size w0 w) (hfr : ∀ b, vb.ownBlock = some b ∨ vt.ownBlock = some b → w0.heap.size ≤ b) :
    EnSt w0 (w.alloc (rsBlk k vb vt lo hi sl vk)) w.heap.size k vb vt vk lo hi sl bag T :=
  ⟨heap_alloc_new _ _, hb.below (below_new_al _), ht.below (below_new_al _), hl.alloc hl.size _, hfr⟩
theorem EnSt.later {w0 w w' : World} {p k : Nat} {vb vt vk : Value} {lo hi : Int} {sl : Bool} {bag : List (Int × Nat)} {T : List Nat} (h : EnSt w0 w p k vb vt vk lo hi sl bag T) (hb : Below w.heap.size w w') : EnSt w0 w' p k vb vt vk lo hi sl bag T :=
  ⟨(hb.block _ (lt_of_blk' h.blk)).trans h.blk, h.bag.below hb, h.tms.below hb, h.bel.trans (hb.mono h.bel.size), h.fr⟩

/-- The rows of reports lie as they did. -/
def KeepR (w0 w' : World) : Prop := w0.heap.size ≤ w'.heap.size ∧ ∀ (b : Nat) (c : Array Value), w0.heap[b]? = some (Obj.cells c 134 (0, 0)) → w'.heap[b]? = w0.heap[b]?
theorem KeepR.of_below {w0 w' : World} (h : Below w0.heap.size w0 w') : KeepR w0 w' := ⟨h.size, fun b _ e => h.block b (lt_of_blk' e)⟩
theorem KeepR.set {w0 w' : World} (h : KeepR w0 w') {p : Nat} (hp : ∀ c, w0.heap[p]? ≠ some (.cells c 134 (0, 0))) (i : Nat) (u : Value) : KeepR w0 (w'.setCell ⟨p, i, none⟩ u) := by
  refine ⟨by rw [setCell_size]; exact h.1, fun b c e => ?_⟩
  rw [Below.heap_setCell _ _ _ _ (fun e' => by subst e'; exact hp c e)]
  exact h.2 b c e
theorem KeepR.drew {w0 w' : World} (h : KeepR w0 w') : KeepR w0 w'.drew := h
theorem renter_kp {w0 w1 : World} {d g c i : Nat} {D : Dk} {s s' : ByteArray} {rs : List RRef} {r : RRef} {x : Hd} (h : RIn G w0 d D s (.slice (some ⟨g, 0, none⟩) D.sks.length c) rs) (hbw : Below w0.heap.size w0 w1) :
    KeepR w0 ((((((((w1.setCell ⟨g, i * 7, none⟩ (.int .i64 (x.sk.k : Int))).setCell ⟨g, i * 7 + 1, none⟩ r.vb).setCell ⟨g, i * 7 + 2, none⟩ r.vt).setCell ⟨g, i * 7 + 3, none⟩ (.int .i64 r.lo)).setCell ⟨g, i * 7 + 4, none⟩ (.int .i64 r.hi)).setCell ⟨g, i * 7 + 5, none⟩ (.bool x.sealed)).setCell ⟨g, i * 7 + 6, none⟩ r.vk).setCell ⟨d, 1, none⟩ (.string s')) := by
  have hg : ∀ cc, w0.heap[g]? ≠ some (.cells cc 134 (0, 0)) := fun cc e => by
    obtain ⟨c2, h2⟩ := ownsRow_blk h.row (g := g) rfl
    rw [h2] at e; cases e
  have hd : ∀ cc, w0.heap[d]? ≠ some (.cells cc 134 (0, 0)) := fun cc e => by
    rw [h.blk] at e; cases e
  exact ((((((((KeepR.of_below hbw).set hg _ _).set hg _ _).set hg _ _).set hg _ _).set hg _ _).set hg _ _).set hg _ _).set hd _ _
/-- What enter answers, and what it leaves. -/
def EnPost (G : Nat → Prop) (d i kb : Nat) (lo' hi' : Int) (wB : Nat) (LM : List Lvl) (D : Dk) (w0 : World) (e : Ending) (w' : World) : Prop :=
  ∃ c D', e = .returned (.int .i64 c) ∧ RStep G w0 w' d D' ∧
      ((c = 6 ∧ 268435456 < wsum (D.sks.getD i Hd.none).sk.lv + wB ∧ D' = D) ∨ (wsum (D.sks.getD i Hd.none).sk.lv + wB ≤ 268435456 ∧
        ((c = 7 ∧ settle (mergeK (D.sks.getD i Hd.none).sk.k kb) D.tape 0 LM = Option.none ∧ D' = D) ∨ (c = 0 ∧ ∃ L u, settle (mergeK (D.sks.getD i Hd.none).sk.k kb) D.tape 0 LM = some (L, u) ∧
          D' = { D with tape := D.tape.drop u, sks := D.sks.set i { sk := { k := mergeK (D.sks.getD i Hd.none).sk.k kb, lv := L, lo := lo', hi := hi' }, sealed := (D.sks.getD i Hd.none).sealed, taken := (D.sks.getD i Hd.none).taken } }))))
theorem EnPost.mk {d i kb : Nat} {lo' hi' : Int} {wB : Nat} {LM : List Lvl} {D : Dk} {w0 : World} {e : Ending} {w' : World} (c : Int) (D' : Dk) (he : e = .returned (.int .i64 c)) (hs : RStep G w0 w' d D') (hr : ((c = 6 ∧ 268435456 < wsum (D.sks.getD i Hd.none).sk.lv + wB ∧ D' = D) ∨ (wsum (D.sks.getD i Hd.none).sk.lv + wB ≤ 268435456 ∧
        ((c = 7 ∧ settle (mergeK (D.sks.getD i Hd.none).sk.k kb) D.tape 0 LM = Option.none ∧ D' = D) ∨ (c = 0 ∧ ∃ L u, settle (mergeK (D.sks.getD i Hd.none).sk.k kb) D.tape 0 LM = some (L, u) ∧
          D' = { D with tape := D.tape.drop u, sks := D.sks.set i { sk := { k := mergeK (D.sks.getD i Hd.none).sk.k kb, lv := L, lo := lo', hi := hi' }, sealed := (D.sks.getD i Hd.none).sealed, taken := (D.sks.getD i Hd.none).taken } }))))) : EnPost G d i kb lo' hi' wB LM D w0 e w' := ⟨c, D', he, hs, hr⟩

set_option maxHeartbeats 4000000 in
set_option maxRecDepth 100000 in
theorem renter_any (X : List Int) (d i kb : Nat) (vb tb vj : Value) (lb hb lo' hi' : Int) (sm : Bool) (B : List (Int × Nat)) (TB : List Nat) (LM : List Lvl) (D : Dk) (s : ByteArray) (va : Value) (rs : List RRef) (w0 w : World) (h : RIn G w0 d D s va rs) (hbw : Below w0.heap.size w0 w) (hi : i < D.sks.length) (hd : LInv D)
    (hB : BagAt w vb B) (hTB : Ints w tb (nats TB)) (hO : BagOf ((rs.getD i RRef.none).bag ++ B) LM) (hT : timesN LM = addT (timesN (D.sks.getD i Hd.none).sk.lv) TB) (hL : LvOk X LM) (hlen : LM.length ≤ 29) (htm : ∀ j, (LM.getD j Lvl.none).times ≤ 549755813888) (hlB : B.length ≤ 50000) (hlow : Low B) (hkb : kb ≤ 255) (hTl : TB.length ≤ 30) (hTb : ∀ j, TB.getD j 0 ≤ 1099511627776) (hvj : ∃ jo jl jc, vj = .slice jo jl jc)
    (hlo : (rs.getD i RRef.none).bag ++ B ≠ [] → boLo (rs.getD i RRef.none).bag.length B.length (rs.getD i RRef.none).lo lb = lo') (hhi : (rs.getD i RRef.none).bag ++ B ≠ [] → boHi (rs.getD i RRef.none).bag.length B.length (rs.getD i RRef.none).hi hb = hi') :
    Calls Tryz.prog 64 #[.pointer (some ⟨d, 0, none⟩), .int .i64 (i : Int), rsVal kb vb tb lb hb sm vj] w fun e w' => KeepR w0 w' ∧ EnPost G d i kb lo' hi' (bagW B) LM D w0 e w' := by
  obtain ⟨jo, jl, jc, rfl⟩ := hvj
  obtain ⟨b9, bcap, rfl, _, _⟩ := hB.form
  obtain ⟨t9, tcap, rfl, _⟩ := hTB.form
  have h1 := h.below hbw
  obtain ⟨g, c, rfl, hg, q0, q1, q2, q3, q4, q5, q6, qz⟩ := h1.cells7 hi
  obtain ⟨c0, c1, c2, cz⟩ := blk3 h1.blk
  have hdz := lt_of_blk' h1.blk
  obtain ⟨hblA, hlowA⟩ := h.bagLen hd hi
  have hk := h1.sk i hi
  have hinv := hd.inv.sk i hi
  obtain ⟨bo, bl, bc, tO, tl, tc, ko, kl, kc, e1, e2, e3, e4, e5⟩ := hk.forms
  have hA230 : (rs.getD i RRef.none).bag.length ≤ 50000 := by
    have := hinv.set
    have h2 := capSum_monoK hinv.ok.k2 (D.sks.getD i Hd.none).sk.lv.length
    have h3 := capSum_mono (k := 64) hinv.ok.len
    rw [capSum_230] at h3
    have := hk.bof.nsum
    omega
  have HCA := hid (fun (w' : World) (hb : Below w.heap.size w w') => rcount_any (D.sks.getD i Hd.none).sk.k (.slice bo bl bc) (.slice tO tl tc) (.slice ko kl kc) (rs.getD i RRef.none).lo (rs.getD i RRef.none).hi (D.sks.getD i Hd.none).sealed (rs.getD i RRef.none).bag w' (by rw [← e1]; exact hk.bag.below hb) hblA hlowA)
  rw [bagW_of hk.bof] at HCA
  have HCB := hid (fun (w' : World) (hb' : Below w.heap.size w w') => rcount_any kb (.slice b9 B.length bcap) (.slice t9 (nats TB).length tcap) (.slice jo jl jc) lb hb sm B w' (hB.below hb') (by omega) hlow)
  have HBO := hid (fun (w' : World) (hb' : Below w.heap.size w w') => rboth_any (D.sks.getD i Hd.none).sk.k kb (.slice bo bl bc) (.slice tO tl tc) (.slice b9 B.length bcap) (.slice t9 (nats TB).length tcap) (.slice ko kl kc) (.slice jo jl jc) (rs.getD i RRef.none).lo (rs.getD i RRef.none).hi lb hb (D.sks.getD i Hd.none).sealed sm (rs.getD i RRef.none).bag B (timesN (D.sks.getD i Hd.none).sk.lv) TB w' (by rw [← e1]; exact hk.bag.below hb') (hB.below hb') (by rw [← e2]; exact hk.tms.below hb') (hTB.below hb') hA230 hlB (by have := hinv.ok.k2; omega) hkb (by rw [timesN_length]; have := hinv.ok.len; omega) hTl (fun j => by rw [timesN_getD]; have := hinv.ok.tms j; omega) hTb ⟨_, _, _, rfl⟩)
  rw [← hT] at HBO
  have hwM : wsum LM = wsum (D.sks.getD i Hd.none).sk.lv + bagW B := by
    rw [← bagW_of hO, ← bagW_of hk.bof]; unfold bagW; rw [List.map_append, List.sum_append]
  have hnM : nsum LM ≤ 100000 := by rw [← hO.nsum, List.length_append]; omega
  have HSE := hid (fun (hw : wsum LM ≤ 268435456) (w' : World) (vb3 vt3 : Value) (lo9 hi9 : Int) (h1 : BagAt w' vb3 ((rs.getD i RRef.none).bag ++ B)) (h2 : Ints w' vt3 (nats (timesN LM))) (h3 : ∀ b, vb3.ownBlock = some b ∨ vt3.ownBlock = some b → w.heap.size ≤ b) (h4 : w.heap.size ≤ w'.heap.size) => rsettled_any (fun b => w.heap.size ≤ b) X (mergeK (D.sks.getD i Hd.none).sk.k kb) vb3 vt3 (.slice ko kl kc) lo9 hi9 (D.sks.getD i Hd.none).sealed ((rs.getD i RRef.none).bag ++ B) LM s w' h1 h2 hO hL (by have := hinv.ok.k2; unfold mergeK; split <;> omega) hlen hw hnM htm (by have := hd.inv.tape; rw [← h.tape] at this; simpa [coinsOf] using this) h.coins ⟨_, _, _, rfl⟩ h3 (fun b hb => Nat.le_trans h4 hb))
  rw [h.tape] at HSE
  have hbB := bagW_bd hlow
  rw [e1] at q1
  rw [e2] at q2
  rw [e3] at q6
  have hs2 : (i : Int) < (D.sks.length : Int) := by omega
  have hcnt := hinv.ok.cnt
  have HH := hid h
  have HBW := hid hbw
  have HOK := hid (h.sk i hi)
  have HFS := hid (h.fsk i hi)
  have HBK := hid h1.blk
  have HLO := hid hlo
  have HHI := hid hhi
  have HE3 := hid e3
  have HO0 := hid hO
  have HMK2 := hid (fun (c : Int) (D' : Dk) (e : Ending) (w' : World) (he : e = .returned (.int .i64 c)) (hs : RStep G w0 w' d D') (hkp : KeepR w0 w') => fun hr => (⟨hkp, EnPost.mk (G := G) (d := d) (i := i) (kb := kb) (lo' := lo') (hi' := hi') (wB := bagW B) (LM := LM) (D := D) (w0 := w0) (e := e) (w' := w') c D' he hs hr⟩ : KeepR w0 w' ∧ EnPost G d i kb lo' hi' (bagW B) LM D w0 e w'))
  generalize EnPost G d i kb lo' hi' (bagW B) LM D w0 = EP at *
  generalize hmk : mergeK (D.sks.getD i Hd.none).sk.k kb = k9 at *
  have HMK : Hid ((if kb < (D.sks.getD i Hd.none).sk.k then kb else (D.sks.getD i Hd.none).sk.k) = k9) := hmk
  generalize boLo (rs.getD i RRef.none).bag.length B.length (rs.getD i RRef.none).lo lb = lo9 at *
  generalize boHi (rs.getD i RRef.none).bag.length B.length (rs.getD i RRef.none).hi hb = hi9 at *
  rw [HMK.out] at HBO
  clear h h1 hk e1 e2 e3 e4 e5 hmk hlo hhi hbw HMK hT hTb hB hTB hL htm hO
  have HX0 := hid (heap_alloc_new w (rsBlk kb (.slice b9 B.length bcap) (.slice t9 (nats TB).length tcap) lb hb sm (.slice jo jl jc)))
  have HB0 := hid (below_new_al (w := w) (rsBlk kb (.slice b9 B.length bcap) (.slice t9 (nats TB).length tcap) lb hb sm (.slice jo jl jc)))
  have HDS : Hid (D.sks.getD i Hd.none = D.sks.getD i Hd.none) := rfl
  generalize hDs : D.sks.getD i Hd.none = H at *
  generalize hRs : rs.getD i RRef.none = r at *
  have hdz0 := hdz
  have hg0 := hg
  have q0' := (HB0.out.cell (p := ⟨g, i * 7, none⟩) hg).trans q0
  have q1' := (HB0.out.cell (p := ⟨g, i * 7 + 1, none⟩) hg).trans q1
  have q2' := (HB0.out.cell (p := ⟨g, i * 7 + 2, none⟩) hg).trans q2
  have q3' := (HB0.out.cell (p := ⟨g, i * 7 + 3, none⟩) hg).trans q3
  have q4' := (HB0.out.cell (p := ⟨g, i * 7 + 4, none⟩) hg).trans q4
  have q5' := (HB0.out.cell (p := ⟨g, i * 7 + 5, none⟩) hg).trans q5
  have q6' := (HB0.out.cell (p := ⟨g, i * 7 + 6, none⟩) hg).trans q6
  have d2' := (HB0.out.cell (p := ⟨d, 2, none⟩) hdz).trans c2
  have hgz := Nat.lt_of_lt_of_le hg HB0.out.size
  have hdz' := Nat.lt_of_lt_of_le hdz HB0.out.size
  generalize wsum H.sk.lv = ws at *
  generalize bagW B = wb at *
  have HRS := hid (fun (w1 : World) (r' : RRef) (x : Hd) (s' : ByteArray) (hb' : Below w0.heap.size w0 w1) (hr' : RsOk w1 r' x) (hro : ∀ b, r'.owns b → G b ∨ w0.heap.size ≤ b) (hc' : areCoins s'.data.toList = true) => renter_st HH.out hi hb' hr' hro hc')
  have HKK := hid (fun (w1 : World) (r' : RRef) (x : Hd) (s' : ByteArray) (hb' : Below w0.heap.size w0 w1) => renter_kp (i := i) (r := r') (x := x) (s' := s') HH.out hb')
  have hdg := HH.out.ne
  have HCN := hid HH.out.coins
  have HTP := hid HH.out.tape
  generalize hA : r.bag = A at *
  generalize hn : D.sks.length = n at *
  generalize B.length = nb at *
  generalize (nats TB).length = tb9 at *
  go_enter Tryz.func64, Tryz.ntmps64
  go_wp2_with fail
  refine (HCA.out _ HB0.out).mono ?_
  rintro e w1 ⟨rfl, hb1⟩
  have HB1 := hid (HB0.out.trans (hb1.mono HB0.out.size))
  have HX1 := hid ((hb1.block w.heap.size (by simp)).trans HX0.out)
  clear hb1 HB0 HX0 q0' q1' q2' q3' q4' q5' q6' d2' hgz hdz' HCA
  obtain ⟨b0, b1, b2, b3, b4, b5, b6, bz⟩ := blk7' HX1.out
  have hzb := lt_of_blk' HX1.out
  go_wp2_with fail
  refine (HCB.out _ HB1.out).mono ?_
  rintro e w2 ⟨rfl, hb2⟩
  have HB2 := hid (HB1.out.trans (hb2.mono HB1.out.size))
  have HX2 := hid ((hb2.block w.heap.size hzb).trans HX1.out)
  clear hb2 HB1 HX1 HCB b0 b1 b2 b3 b4 b5 b6 bz hzb
  by_cases hf : ws + wb ≤ 268435456
  · have HW := hid (fun w' => HSE.out (by omega) w')
    obtain ⟨b0, b1, b2, b3, b4, b5, b6, bz⟩ := blk7' HX2.out
    have hzb := lt_of_blk' HX2.out
    have q0' := (HB2.out.cell (p := ⟨g, i * 7, none⟩) hg).trans q0
    have q1' := (HB2.out.cell (p := ⟨g, i * 7 + 1, none⟩) hg).trans q1
    have q2' := (HB2.out.cell (p := ⟨g, i * 7 + 2, none⟩) hg).trans q2
    have q3' := (HB2.out.cell (p := ⟨g, i * 7 + 3, none⟩) hg).trans q3
    have q4' := (HB2.out.cell (p := ⟨g, i * 7 + 4, none⟩) hg).trans q4
    have q5' := (HB2.out.cell (p := ⟨g, i * 7 + 5, none⟩) hg).trans q5
    have q6' := (HB2.out.cell (p := ⟨g, i * 7 + 6, none⟩) hg).trans q6
    have d2' := (HB2.out.cell (p := ⟨d, 2, none⟩) hdz).trans c2
    have hgz := Nat.lt_of_lt_of_le hg HB2.out.size
    have hdz' := Nat.lt_of_lt_of_le hdz HB2.out.size
    go_upto_region 5 with fail
    clear HSE
    go_cut [9] from 7 (fun s9 we => ∃ p o3 l3 p3 u3 m3 v3, s9 = .pointer (some ⟨p, 0, none⟩) ∧ EnSt w we p k9 (.slice o3 l3 p3) (.slice u3 m3 v3) (.slice ko kl kc) lo9 hi9 H.sealed (A ++ B) (timesN LM))
    case first =>
      have HS3 : Hid (∀ w3, Below w.heap.size w w3 → w3.heap[w.heap.size]? = some (rsBlk kb (.slice b9 nb bcap) (.slice t9 tb9 tcap) lb hb sm (.slice jo jl jc)) → w3.cell? ⟨d, 2, none⟩ = some (.slice (some ⟨g, 0, none⟩) n c) ∧ w3.cell? ⟨g, i * 7, none⟩ = some (.int .i64 (H.sk.k : Int)) ∧ w3.cell? ⟨g, i * 7 + 1, none⟩ = some (.slice bo bl bc) ∧ w3.cell? ⟨g, i * 7 + 2, none⟩ = some (.slice tO tl tc) ∧ w3.cell? ⟨g, i * 7 + 3, none⟩ = some (.int .i64 r.lo) ∧ w3.cell? ⟨g, i * 7 + 4, none⟩ = some (.int .i64 r.hi) ∧ w3.cell? ⟨g, i * 7 + 5, none⟩ = some (.bool H.sealed) ∧ w3.cell? ⟨g, i * 7 + 6, none⟩ = some (.slice ko kl kc) ∧ w3.cell? ⟨w.heap.size, 0, none⟩ = some (.int .i64 (kb : Int)) ∧ w3.cell? ⟨w.heap.size, 1, none⟩ = some (.slice b9 nb bcap) ∧ w3.cell? ⟨w.heap.size, 2, none⟩ = some (.slice t9 tb9 tcap) ∧ w3.cell? ⟨w.heap.size, 3, none⟩ = some (.int .i64 lb) ∧ w3.cell? ⟨w.heap.size, 4, none⟩ = some (.int .i64 hb) ∧ w3.cell? ⟨w.heap.size, 5, none⟩ = some (.bool sm) ∧ w3.cell? ⟨w.heap.size, 6, none⟩ = some (.slice jo jl jc)) := fun w3 h3 hx3 => by
        obtain ⟨y0, y1, y2, y3, y4, y5, y6, _⟩ := blk7' hx3
        exact ⟨(h3.cell (p := ⟨d, 2, none⟩) hdz).trans c2, (h3.cell (p := ⟨g, i * 7, none⟩) hg).trans q0, (h3.cell (p := ⟨g, i * 7 + 1, none⟩) hg).trans q1, (h3.cell (p := ⟨g, i * 7 + 2, none⟩) hg).trans q2, (h3.cell (p := ⟨g, i * 7 + 3, none⟩) hg).trans q3, (h3.cell (p := ⟨g, i * 7 + 4, none⟩) hg).trans q4, (h3.cell (p := ⟨g, i * 7 + 5, none⟩) hg).trans q5, (h3.cell (p := ⟨g, i * 7 + 6, none⟩) hg).trans q6, y0, y1, y2, y3, y4, y5, y6⟩
      have HB9 : Hid (∀ W, Below w2.heap.size w2 W → Calls Tryz.prog 88 #[rsVal H.sk.k (.slice bo bl bc) (.slice tO tl tc) r.lo r.hi H.sealed (.slice ko kl kc), rsVal kb (.slice b9 nb bcap) (.slice t9 tb9 tcap) lb hb sm (.slice jo jl jc)] W fun e w3 => ∃ o3 l3 p3 u3 m3 v3, e = .returned (rsVal k9 (.slice o3 l3 p3) (.slice u3 m3 v3) lo9 hi9 H.sealed (.slice ko kl kc)) ∧ Hid (BagAt w3 (.slice o3 l3 p3) (A ++ B) ∧ Ints w3 (.slice u3 m3 v3) (nats (timesN LM)) ∧ Below w.heap.size w w3 ∧ Below W.heap.size W w3 ∧ ∀ b, (Value.slice o3 l3 p3).ownBlock = some b ∨ (Value.slice u3 m3 v3).ownBlock = some b → w.heap.size ≤ b) ∧ w2.heap.size ≤ w3.heap.size ∧ w3.cell? ⟨d, 2, none⟩ = some (.slice (some ⟨g, 0, none⟩) n c) ∧ w3.cell? ⟨g, i * 7, none⟩ = some (.int .i64 (H.sk.k : Int)) ∧ w3.cell? ⟨g, i * 7 + 1, none⟩ = some (.slice bo bl bc) ∧ w3.cell? ⟨g, i * 7 + 2, none⟩ = some (.slice tO tl tc) ∧ w3.cell? ⟨g, i * 7 + 3, none⟩ = some (.int .i64 r.lo) ∧ w3.cell? ⟨g, i * 7 + 4, none⟩ = some (.int .i64 r.hi) ∧ w3.cell? ⟨g, i * 7 + 5, none⟩ = some (.bool H.sealed) ∧ w3.cell? ⟨g, i * 7 + 6, none⟩ = some (.slice ko kl kc) ∧ w3.cell? ⟨w.heap.size, 0, none⟩ = some (.int .i64 (kb : Int)) ∧ w3.cell? ⟨w.heap.size, 1, none⟩ = some (.slice b9 nb bcap) ∧ w3.cell? ⟨w.heap.size, 2, none⟩ = some (.slice t9 tb9 tcap) ∧ w3.cell? ⟨w.heap.size, 3, none⟩ = some (.int .i64 lb) ∧ w3.cell? ⟨w.heap.size, 4, none⟩ = some (.int .i64 hb) ∧ w3.cell? ⟨w.heap.size, 5, none⟩ = some (.bool sm) ∧ w3.cell? ⟨w.heap.size, 6, none⟩ = some (.slice jo jl jc)) := fun W hW => by
        have hWw := HB2.out.trans (hW.mono HB2.out.size)
        refine (HBO.out W hWw).mono ?_
        rintro e w3 ⟨vb3, vt3, rfl, hbg3, htm3, hb3, hfr3⟩
        obtain ⟨o3, p3, rfl, _, _⟩ := hbg3.form
        obtain ⟨u3, v3, rfl, _⟩ := htm3.form
        have hB3 := hWw.trans (hb3.mono hWw.size)
        exact ⟨_, _, _, _, _, _, rfl, ⟨hbg3, htm3, hB3, hb3, fun b e => Nat.le_trans hWw.size (hfr3 b e)⟩, Nat.le_trans hW.size hb3.size, HS3.out w3 hB3 ((hb3.block w.heap.size (Nat.lt_of_lt_of_le hzb hW.size)).trans ((hW.block w.heap.size hzb).trans HX2.out))⟩
      have n1 : ¬ g = w2.heap.size := by omega
      have n2 : ¬ d = w2.heap.size := by omega
      have n3 : ¬ w.heap.size = w2.heap.size := by omega
      have hS0 : w2.drew.cell? ⟨d, 2, none⟩ = some (.slice (some ⟨g, 0, none⟩) n c) ∧ w2.drew.cell? ⟨g, i * 7, none⟩ = some (.int .i64 (H.sk.k : Int)) ∧ w2.drew.cell? ⟨g, i * 7 + 1, none⟩ = some (.slice bo bl bc) ∧ w2.drew.cell? ⟨g, i * 7 + 2, none⟩ = some (.slice tO tl tc) ∧ w2.drew.cell? ⟨g, i * 7 + 3, none⟩ = some (.int .i64 r.lo) ∧ w2.drew.cell? ⟨g, i * 7 + 4, none⟩ = some (.int .i64 r.hi) ∧ w2.drew.cell? ⟨g, i * 7 + 5, none⟩ = some (.bool H.sealed) ∧ w2.drew.cell? ⟨g, i * 7 + 6, none⟩ = some (.slice ko kl kc) ∧ w2.drew.cell? ⟨w.heap.size, 0, none⟩ = some (.int .i64 (kb : Int)) ∧ w2.drew.cell? ⟨w.heap.size, 1, none⟩ = some (.slice b9 nb bcap) ∧ w2.drew.cell? ⟨w.heap.size, 2, none⟩ = some (.slice t9 tb9 tcap) ∧ w2.drew.cell? ⟨w.heap.size, 3, none⟩ = some (.int .i64 lb) ∧ w2.drew.cell? ⟨w.heap.size, 4, none⟩ = some (.int .i64 hb) ∧ w2.drew.cell? ⟨w.heap.size, 5, none⟩ = some (.bool sm) ∧ w2.drew.cell? ⟨w.heap.size, 6, none⟩ = some (.slice jo jl jc) := ⟨d2', q0', q1', q2', q3', q4', q5', q6', b0, b1, b2, b3, b4, b5, b6⟩
      have hS1 : ∀ o : Obj, (w2.alloc o).drew.cell? ⟨d, 2, none⟩ = some (.slice (some ⟨g, 0, none⟩) n c) ∧ (w2.alloc o).drew.cell? ⟨g, i * 7, none⟩ = some (.int .i64 (H.sk.k : Int)) ∧ (w2.alloc o).drew.cell? ⟨g, i * 7 + 1, none⟩ = some (.slice bo bl bc) ∧ (w2.alloc o).drew.cell? ⟨g, i * 7 + 2, none⟩ = some (.slice tO tl tc) ∧ (w2.alloc o).drew.cell? ⟨g, i * 7 + 3, none⟩ = some (.int .i64 r.lo) ∧ (w2.alloc o).drew.cell? ⟨g, i * 7 + 4, none⟩ = some (.int .i64 r.hi) ∧ (w2.alloc o).drew.cell? ⟨g, i * 7 + 5, none⟩ = some (.bool H.sealed) ∧ (w2.alloc o).drew.cell? ⟨g, i * 7 + 6, none⟩ = some (.slice ko kl kc) ∧ (w2.alloc o).drew.cell? ⟨w.heap.size, 0, none⟩ = some (.int .i64 (kb : Int)) ∧ (w2.alloc o).drew.cell? ⟨w.heap.size, 1, none⟩ = some (.slice b9 nb bcap) ∧ (w2.alloc o).drew.cell? ⟨w.heap.size, 2, none⟩ = some (.slice t9 tb9 tcap) ∧ (w2.alloc o).drew.cell? ⟨w.heap.size, 3, none⟩ = some (.int .i64 lb) ∧ (w2.alloc o).drew.cell? ⟨w.heap.size, 4, none⟩ = some (.int .i64 hb) ∧ (w2.alloc o).drew.cell? ⟨w.heap.size, 5, none⟩ = some (.bool sm) ∧ (w2.alloc o).drew.cell? ⟨w.heap.size, 6, none⟩ = some (.slice jo jl jc) := fun o => ⟨(cell_al hdz' o).trans d2', (cell_al hgz o).trans q0', (cell_al hgz o).trans q1', (cell_al hgz o).trans q2', (cell_al hgz o).trans q3', (cell_al hgz o).trans q4', (cell_al hgz o).trans q5', (cell_al hgz o).trans q6', (cell_al hzb o).trans b0, (cell_al hzb o).trans b1, (cell_al hzb o).trans b2, (cell_al hzb o).trans b3, (cell_al hzb o).trans b4, (cell_al hzb o).trans b5, (cell_al hzb o).trans b6⟩
      have HK : Hid (∀ w3 : World, w2.heap.size ≤ w3.heap.size → (w3.cell? ⟨d, 2, none⟩ = some (.slice (some ⟨g, 0, none⟩) n c) ∧ w3.cell? ⟨g, i * 7, none⟩ = some (.int .i64 (H.sk.k : Int)) ∧ w3.cell? ⟨g, i * 7 + 1, none⟩ = some (.slice bo bl bc) ∧ w3.cell? ⟨g, i * 7 + 2, none⟩ = some (.slice tO tl tc) ∧ w3.cell? ⟨g, i * 7 + 3, none⟩ = some (.int .i64 r.lo) ∧ w3.cell? ⟨g, i * 7 + 4, none⟩ = some (.int .i64 r.hi) ∧ w3.cell? ⟨g, i * 7 + 5, none⟩ = some (.bool H.sealed) ∧ w3.cell? ⟨g, i * 7 + 6, none⟩ = some (.slice ko kl kc) ∧ w3.cell? ⟨w.heap.size, 0, none⟩ = some (.int .i64 (kb : Int)) ∧ w3.cell? ⟨w.heap.size, 1, none⟩ = some (.slice b9 nb bcap) ∧ w3.cell? ⟨w.heap.size, 2, none⟩ = some (.slice t9 tb9 tcap) ∧ w3.cell? ⟨w.heap.size, 3, none⟩ = some (.int .i64 lb) ∧ w3.cell? ⟨w.heap.size, 4, none⟩ = some (.int .i64 hb) ∧ w3.cell? ⟨w.heap.size, 5, none⟩ = some (.bool sm) ∧ w3.cell? ⟨w.heap.size, 6, none⟩ = some (.slice jo jl jc)) → (∀ o : Obj, (w3.alloc o).cell? ⟨d, 2, none⟩ = some (.slice (some ⟨g, 0, none⟩) n c) ∧ (w3.alloc o).cell? ⟨g, i * 7, none⟩ = some (.int .i64 (H.sk.k : Int)) ∧ (w3.alloc o).cell? ⟨g, i * 7 + 1, none⟩ = some (.slice bo bl bc) ∧ (w3.alloc o).cell? ⟨g, i * 7 + 2, none⟩ = some (.slice tO tl tc) ∧ (w3.alloc o).cell? ⟨g, i * 7 + 3, none⟩ = some (.int .i64 r.lo) ∧ (w3.alloc o).cell? ⟨g, i * 7 + 4, none⟩ = some (.int .i64 r.hi) ∧ (w3.alloc o).cell? ⟨g, i * 7 + 5, none⟩ = some (.bool H.sealed) ∧ (w3.alloc o).cell? ⟨g, i * 7 + 6, none⟩ = some (.slice ko kl kc) ∧ (w3.alloc o).cell? ⟨w.heap.size, 0, none⟩ = some (.int .i64 (kb : Int)) ∧ (w3.alloc o).cell? ⟨w.heap.size, 1, none⟩ = some (.slice b9 nb bcap) ∧ (w3.alloc o).cell? ⟨w.heap.size, 2, none⟩ = some (.slice t9 tb9 tcap) ∧ (w3.alloc o).cell? ⟨w.heap.size, 3, none⟩ = some (.int .i64 lb) ∧ (w3.alloc o).cell? ⟨w.heap.size, 4, none⟩ = some (.int .i64 hb) ∧ (w3.alloc o).cell? ⟨w.heap.size, 5, none⟩ = some (.bool sm) ∧ (w3.alloc o).cell? ⟨w.heap.size, 6, none⟩ = some (.slice jo jl jc)) ∧ (∀ x0 x1 x2 x3 x4 x5 x6 : Value, (((((((w3.setCell ⟨w2.heap.size, 0, none⟩ x0).setCell ⟨w2.heap.size, 1, none⟩ x1).setCell ⟨w2.heap.size, 2, none⟩ x2).setCell ⟨w2.heap.size, 3, none⟩ x3).setCell ⟨w2.heap.size, 4, none⟩ x4).setCell ⟨w2.heap.size, 5, none⟩ x5).setCell ⟨w2.heap.size, 6, none⟩ x6).cell? ⟨d, 2, none⟩ = some (.slice (some ⟨g, 0, none⟩) n c) ∧ (((((((w3.setCell ⟨w2.heap.size, 0, none⟩ x0).setCell ⟨w2.heap.size, 1, none⟩ x1).setCell ⟨w2.heap.size, 2, none⟩ x2).setCell ⟨w2.heap.size, 3, none⟩ x3).setCell ⟨w2.heap.size, 4, none⟩ x4).setCell ⟨w2.heap.size, 5, none⟩ x5).setCell ⟨w2.heap.size, 6, none⟩ x6).cell? ⟨g, i * 7, none⟩ = some (.int .i64 (H.sk.k : Int)) ∧ (((((((w3.setCell ⟨w2.heap.size, 0, none⟩ x0).setCell ⟨w2.heap.size, 1, none⟩ x1).setCell ⟨w2.heap.size, 2, none⟩ x2).setCell ⟨w2.heap.size, 3, none⟩ x3).setCell ⟨w2.heap.size, 4, none⟩ x4).setCell ⟨w2.heap.size, 5, none⟩ x5).setCell ⟨w2.heap.size, 6, none⟩ x6).cell? ⟨g, i * 7 + 1, none⟩ = some (.slice bo bl bc) ∧ (((((((w3.setCell ⟨w2.heap.size, 0, none⟩ x0).setCell ⟨w2.heap.size, 1, none⟩ x1).setCell ⟨w2.heap.size, 2, none⟩ x2).setCell ⟨w2.heap.size, 3, none⟩ x3).setCell ⟨w2.heap.size, 4, none⟩ x4).setCell ⟨w2.heap.size, 5, none⟩ x5).setCell ⟨w2.heap.size, 6, none⟩ x6).cell? ⟨g, i * 7 + 2, none⟩ = some (.slice tO tl tc) ∧ (((((((w3.setCell ⟨w2.heap.size, 0, none⟩ x0).setCell ⟨w2.heap.size, 1, none⟩ x1).setCell ⟨w2.heap.size, 2, none⟩ x2).setCell ⟨w2.heap.size, 3, none⟩ x3).setCell ⟨w2.heap.size, 4, none⟩ x4).setCell ⟨w2.heap.size, 5, none⟩ x5).setCell ⟨w2.heap.size, 6, none⟩ x6).cell? ⟨g, i * 7 + 3, none⟩ = some (.int .i64 r.lo) ∧ (((((((w3.setCell ⟨w2.heap.size, 0, none⟩ x0).setCell ⟨w2.heap.size, 1, none⟩ x1).setCell ⟨w2.heap.size, 2, none⟩ x2).setCell ⟨w2.heap.size, 3, none⟩ x3).setCell ⟨w2.heap.size, 4, none⟩ x4).setCell ⟨w2.heap.size, 5, none⟩ x5).setCell ⟨w2.heap.size, 6, none⟩ x6).cell? ⟨g, i * 7 + 4, none⟩ = some (.int .i64 r.hi) ∧ (((((((w3.setCell ⟨w2.heap.size, 0, none⟩ x0).setCell ⟨w2.heap.size, 1, none⟩ x1).setCell ⟨w2.heap.size, 2, none⟩ x2).setCell ⟨w2.heap.size, 3, none⟩ x3).setCell ⟨w2.heap.size, 4, none⟩ x4).setCell ⟨w2.heap.size, 5, none⟩ x5).setCell ⟨w2.heap.size, 6, none⟩ x6).cell? ⟨g, i * 7 + 5, none⟩ = some (.bool H.sealed) ∧ (((((((w3.setCell ⟨w2.heap.size, 0, none⟩ x0).setCell ⟨w2.heap.size, 1, none⟩ x1).setCell ⟨w2.heap.size, 2, none⟩ x2).setCell ⟨w2.heap.size, 3, none⟩ x3).setCell ⟨w2.heap.size, 4, none⟩ x4).setCell ⟨w2.heap.size, 5, none⟩ x5).setCell ⟨w2.heap.size, 6, none⟩ x6).cell? ⟨g, i * 7 + 6, none⟩ = some (.slice ko kl kc) ∧ (((((((w3.setCell ⟨w2.heap.size, 0, none⟩ x0).setCell ⟨w2.heap.size, 1, none⟩ x1).setCell ⟨w2.heap.size, 2, none⟩ x2).setCell ⟨w2.heap.size, 3, none⟩ x3).setCell ⟨w2.heap.size, 4, none⟩ x4).setCell ⟨w2.heap.size, 5, none⟩ x5).setCell ⟨w2.heap.size, 6, none⟩ x6).cell? ⟨w.heap.size, 0, none⟩ = some (.int .i64 (kb : Int)) ∧ (((((((w3.setCell ⟨w2.heap.size, 0, none⟩ x0).setCell ⟨w2.heap.size, 1, none⟩ x1).setCell ⟨w2.heap.size, 2, none⟩ x2).setCell ⟨w2.heap.size, 3, none⟩ x3).setCell ⟨w2.heap.size, 4, none⟩ x4).setCell ⟨w2.heap.size, 5, none⟩ x5).setCell ⟨w2.heap.size, 6, none⟩ x6).cell? ⟨w.heap.size, 1, none⟩ = some (.slice b9 nb bcap) ∧ (((((((w3.setCell ⟨w2.heap.size, 0, none⟩ x0).setCell ⟨w2.heap.size, 1, none⟩ x1).setCell ⟨w2.heap.size, 2, none⟩ x2).setCell ⟨w2.heap.size, 3, none⟩ x3).setCell ⟨w2.heap.size, 4, none⟩ x4).setCell ⟨w2.heap.size, 5, none⟩ x5).setCell ⟨w2.heap.size, 6, none⟩ x6).cell? ⟨w.heap.size, 2, none⟩ = some (.slice t9 tb9 tcap) ∧ (((((((w3.setCell ⟨w2.heap.size, 0, none⟩ x0).setCell ⟨w2.heap.size, 1, none⟩ x1).setCell ⟨w2.heap.size, 2, none⟩ x2).setCell ⟨w2.heap.size, 3, none⟩ x3).setCell ⟨w2.heap.size, 4, none⟩ x4).setCell ⟨w2.heap.size, 5, none⟩ x5).setCell ⟨w2.heap.size, 6, none⟩ x6).cell? ⟨w.heap.size, 3, none⟩ = some (.int .i64 lb) ∧ (((((((w3.setCell ⟨w2.heap.size, 0, none⟩ x0).setCell ⟨w2.heap.size, 1, none⟩ x1).setCell ⟨w2.heap.size, 2, none⟩ x2).setCell ⟨w2.heap.size, 3, none⟩ x3).setCell ⟨w2.heap.size, 4, none⟩ x4).setCell ⟨w2.heap.size, 5, none⟩ x5).setCell ⟨w2.heap.size, 6, none⟩ x6).cell? ⟨w.heap.size, 4, none⟩ = some (.int .i64 hb) ∧ (((((((w3.setCell ⟨w2.heap.size, 0, none⟩ x0).setCell ⟨w2.heap.size, 1, none⟩ x1).setCell ⟨w2.heap.size, 2, none⟩ x2).setCell ⟨w2.heap.size, 3, none⟩ x3).setCell ⟨w2.heap.size, 4, none⟩ x4).setCell ⟨w2.heap.size, 5, none⟩ x5).setCell ⟨w2.heap.size, 6, none⟩ x6).cell? ⟨w.heap.size, 5, none⟩ = some (.bool sm) ∧ (((((((w3.setCell ⟨w2.heap.size, 0, none⟩ x0).setCell ⟨w2.heap.size, 1, none⟩ x1).setCell ⟨w2.heap.size, 2, none⟩ x2).setCell ⟨w2.heap.size, 3, none⟩ x3).setCell ⟨w2.heap.size, 4, none⟩ x4).setCell ⟨w2.heap.size, 5, none⟩ x5).setCell ⟨w2.heap.size, 6, none⟩ x6).cell? ⟨w.heap.size, 6, none⟩ = some (.slice jo jl jc))) := fun w3 h3 hS => by
        have hdz3 : d < w3.heap.size := by omega
        have hg3 : g < w3.heap.size := by omega
        have hw3 : w.heap.size < w3.heap.size := by omega
        exact ⟨fun o => ⟨(cell_al hdz3 o).trans hS.1, (cell_al hg3 o).trans hS.2.1, (cell_al hg3 o).trans hS.2.2.1, (cell_al hg3 o).trans hS.2.2.2.1, (cell_al hg3 o).trans hS.2.2.2.2.1, (cell_al hg3 o).trans hS.2.2.2.2.2.1, (cell_al hg3 o).trans hS.2.2.2.2.2.2.1, (cell_al hg3 o).trans hS.2.2.2.2.2.2.2.1, (cell_al hw3 o).trans hS.2.2.2.2.2.2.2.2.1, (cell_al hw3 o).trans hS.2.2.2.2.2.2.2.2.2.1, (cell_al hw3 o).trans hS.2.2.2.2.2.2.2.2.2.2.1, (cell_al hw3 o).trans hS.2.2.2.2.2.2.2.2.2.2.2.1, (cell_al hw3 o).trans hS.2.2.2.2.2.2.2.2.2.2.2.2.1, (cell_al hw3 o).trans hS.2.2.2.2.2.2.2.2.2.2.2.2.2.1, (cell_al hw3 o).trans hS.2.2.2.2.2.2.2.2.2.2.2.2.2.2⟩, fun x0 x1 x2 x3 x4 x5 x6 => ⟨(cell_set7 n2 x0 x1 x2 x3 x4 x5 x6).trans hS.1, (cell_set7 n1 x0 x1 x2 x3 x4 x5 x6).trans hS.2.1, (cell_set7 n1 x0 x1 x2 x3 x4 x5 x6).trans hS.2.2.1, (cell_set7 n1 x0 x1 x2 x3 x4 x5 x6).trans hS.2.2.2.1, (cell_set7 n1 x0 x1 x2 x3 x4 x5 x6).trans hS.2.2.2.2.1, (cell_set7 n1 x0 x1 x2 x3 x4 x5 x6).trans hS.2.2.2.2.2.1, (cell_set7 n1 x0 x1 x2 x3 x4 x5 x6).trans hS.2.2.2.2.2.2.1, (cell_set7 n1 x0 x1 x2 x3 x4 x5 x6).trans hS.2.2.2.2.2.2.2.1, (cell_set7 n3 x0 x1 x2 x3 x4 x5 x6).trans hS.2.2.2.2.2.2.2.2.1, (cell_set7 n3 x0 x1 x2 x3 x4 x5 x6).trans hS.2.2.2.2.2.2.2.2.2.1, (cell_set7 n3 x0 x1 x2 x3 x4 x5 x6).trans hS.2.2.2.2.2.2.2.2.2.2.1, (cell_set7 n3 x0 x1 x2 x3 x4 x5 x6).trans hS.2.2.2.2.2.2.2.2.2.2.2.1, (cell_set7 n3 x0 x1 x2 x3 x4 x5 x6).trans hS.2.2.2.2.2.2.2.2.2.2.2.2.1, (cell_set7 n3 x0 x1 x2 x3 x4 x5 x6).trans hS.2.2.2.2.2.2.2.2.2.2.2.2.2.1, (cell_set7 n3 x0 x1 x2 x3 x4 x5 x6).trans hS.2.2.2.2.2.2.2.2.2.2.2.2.2.2⟩⟩
      clear HBO HS3
      go_region_held3 (fun w' => w'.cell? ⟨d, 2, none⟩ = some (.slice (some ⟨g, 0, none⟩) n c) ∧ w'.cell? ⟨g, i * 7, none⟩ = some (.int .i64 (H.sk.k : Int)) ∧ w'.cell? ⟨g, i * 7 + 1, none⟩ = some (.slice bo bl bc) ∧ w'.cell? ⟨g, i * 7 + 2, none⟩ = some (.slice tO tl tc) ∧ w'.cell? ⟨g, i * 7 + 3, none⟩ = some (.int .i64 r.lo) ∧ w'.cell? ⟨g, i * 7 + 4, none⟩ = some (.int .i64 r.hi) ∧ w'.cell? ⟨g, i * 7 + 5, none⟩ = some (.bool H.sealed) ∧ w'.cell? ⟨g, i * 7 + 6, none⟩ = some (.slice ko kl kc) ∧ w'.cell? ⟨w.heap.size, 0, none⟩ = some (.int .i64 (kb : Int)) ∧ w'.cell? ⟨w.heap.size, 1, none⟩ = some (.slice b9 nb bcap) ∧ w'.cell? ⟨w.heap.size, 2, none⟩ = some (.slice t9 tb9 tcap) ∧ w'.cell? ⟨w.heap.size, 3, none⟩ = some (.int .i64 lb) ∧ w'.cell? ⟨w.heap.size, 4, none⟩ = some (.int .i64 hb) ∧ w'.cell? ⟨w.heap.size, 5, none⟩ = some (.bool sm) ∧ w'.cell? ⟨w.heap.size, 6, none⟩ = some (.slice jo jl jc)) (first | with_reducible exact hS3 | with_reducible exact hSB _ | with_reducible exact hSA _ _ _ _ _ _ _ | with_reducible exact hS0 | with_reducible exact hS1 _ | go_keep) (first | (go_at_call 88; refine Calls.mono (HB9.out _ ?_) ?_; exact ⟨rfl, rfl, rfl, (by simp), fun b hb => (by first | exact Below.heap_alloc w2 _ b hb | rfl)⟩; rintro e w3 ⟨o3, l3, p3, u3, m3, v3, rfl, HG3, hz3, hS3⟩; obtain ⟨hSB, hSA⟩ := HK.out w3 hz3 hS3; try (have hzz := (HG3.out.2.2.2.1.block w2.heap.size (by simp)).trans (heap_alloc_new w2 _); have HZZ : Hid (w3.heap[w2.heap.size]? = some rsZero) := hzz; obtain ⟨z0, z1, z2, z3, z4, z5, z6, zz⟩ := blk7' hzz; have hzl := lt_of_blk' hzz; clear hzz)))
      · have HE := hid (EnSt.made (k := k9) (vk := .slice ko kl kc) (lo := lo9) (hi := hi9) (sl := H.sealed) HG3.out.1 HG3.out.2.1 HG3.out.2.2.1 HG3.out.2.2.2.2)
        clear HG3 hS3 hSB hSA HK hS0 hS1
        go_wp2_with fail
        go_meet
        exact ⟨w3.heap.size, o3, l3, p3, u3, m3, v3, rfl, HE.out⟩
      · have HE := hid (EnSt.stored (k := k9) (vk := .slice ko kl kc) (lo := lo9) (hi := hi9) (sl := H.sealed) HZZ.out HG3.out.1 HG3.out.2.1 HG3.out.2.2.1 HB2.out.size HG3.out.2.2.2.2)
        clear HG3 hS3 hSB hSA HK hS0 hS1 HZZ z0 z1 z2 z3 z4 z5 z6 zz
        go_wp2_with fail
        go_meet
        exact ⟨w2.heap.size, o3, l3, p3, u3, m3, v3, rfl, HE.out⟩
    case rest =>
    obtain ⟨p, o3, l3, p3, u3, m3, v3, rfl, hE⟩ := hcut
    have HE := hid hE
    clear hE b0 b1 b2 b3 b4 b5 b6 bz hzb q0' q1' q2' q3' q4' q5' q6' d2' hgz hdz' HB2 HX2 HBO
    obtain ⟨k0, k1, k2, k3, k4, k5, k6, kz⟩ := blk7' HE.out.blk
    have hpz := lt_of_blk' HE.out.blk
    have t1 := (HE.out.bel.cell (p := ⟨d, 1, none⟩) hdz).trans c1
    have hdz' := Nat.lt_of_lt_of_le hdz HE.out.bel.size
    have n1 : ¬ p = wc.heap.size := by omega
    have n2 : ¬ d = wc.heap.size := by omega
    have HS3 : Hid (∀ w3, Below wc.heap.size wc w3 → w3.cell? ⟨p, 0, none⟩ = some (.int .i64 (k9 : Int)) ∧ w3.cell? ⟨p, 1, none⟩ = some (.slice o3 l3 p3) ∧ w3.cell? ⟨p, 2, none⟩ = some (.slice u3 m3 v3) ∧ w3.cell? ⟨p, 3, none⟩ = some (.int .i64 lo9) ∧ w3.cell? ⟨p, 4, none⟩ = some (.int .i64 hi9) ∧ w3.cell? ⟨p, 5, none⟩ = some (.bool H.sealed) ∧ w3.cell? ⟨p, 6, none⟩ = some (.slice ko kl kc) ∧ w3.cell? ⟨d, 1, none⟩ = some (.string s)) := fun w3 h3 => ⟨(h3.cell (p := ⟨p, 0, none⟩) hpz).trans k0, (h3.cell (p := ⟨p, 1, none⟩) hpz).trans k1, (h3.cell (p := ⟨p, 2, none⟩) hpz).trans k2, (h3.cell (p := ⟨p, 3, none⟩) hpz).trans k3, (h3.cell (p := ⟨p, 4, none⟩) hpz).trans k4, (h3.cell (p := ⟨p, 5, none⟩) hpz).trans k5, (h3.cell (p := ⟨p, 6, none⟩) hpz).trans k6, (h3.cell (p := ⟨d, 1, none⟩) hdz').trans t1⟩
    have hS0 : wc.drew.cell? ⟨p, 0, none⟩ = some (.int .i64 (k9 : Int)) ∧ wc.drew.cell? ⟨p, 1, none⟩ = some (.slice o3 l3 p3) ∧ wc.drew.cell? ⟨p, 2, none⟩ = some (.slice u3 m3 v3) ∧ wc.drew.cell? ⟨p, 3, none⟩ = some (.int .i64 lo9) ∧ wc.drew.cell? ⟨p, 4, none⟩ = some (.int .i64 hi9) ∧ wc.drew.cell? ⟨p, 5, none⟩ = some (.bool H.sealed) ∧ wc.drew.cell? ⟨p, 6, none⟩ = some (.slice ko kl kc) ∧ wc.drew.cell? ⟨d, 1, none⟩ = some (.string s) := ⟨k0, k1, k2, k3, k4, k5, k6, t1⟩
    have hS1 : ∀ o : Obj, (wc.alloc o).drew.cell? ⟨p, 0, none⟩ = some (.int .i64 (k9 : Int)) ∧ (wc.alloc o).drew.cell? ⟨p, 1, none⟩ = some (.slice o3 l3 p3) ∧ (wc.alloc o).drew.cell? ⟨p, 2, none⟩ = some (.slice u3 m3 v3) ∧ (wc.alloc o).drew.cell? ⟨p, 3, none⟩ = some (.int .i64 lo9) ∧ (wc.alloc o).drew.cell? ⟨p, 4, none⟩ = some (.int .i64 hi9) ∧ (wc.alloc o).drew.cell? ⟨p, 5, none⟩ = some (.bool H.sealed) ∧ (wc.alloc o).drew.cell? ⟨p, 6, none⟩ = some (.slice ko kl kc) ∧ (wc.alloc o).drew.cell? ⟨d, 1, none⟩ = some (.string s) := fun o => ⟨(cell_al hpz o).trans k0, (cell_al hpz o).trans k1, (cell_al hpz o).trans k2, (cell_al hpz o).trans k3, (cell_al hpz o).trans k4, (cell_al hpz o).trans k5, (cell_al hpz o).trans k6, (cell_al hdz' o).trans t1⟩
    have HK : Hid (∀ w3 : World, wc.heap.size ≤ w3.heap.size → (w3.cell? ⟨p, 0, none⟩ = some (.int .i64 (k9 : Int)) ∧ w3.cell? ⟨p, 1, none⟩ = some (.slice o3 l3 p3) ∧ w3.cell? ⟨p, 2, none⟩ = some (.slice u3 m3 v3) ∧ w3.cell? ⟨p, 3, none⟩ = some (.int .i64 lo9) ∧ w3.cell? ⟨p, 4, none⟩ = some (.int .i64 hi9) ∧ w3.cell? ⟨p, 5, none⟩ = some (.bool H.sealed) ∧ w3.cell? ⟨p, 6, none⟩ = some (.slice ko kl kc) ∧ w3.cell? ⟨d, 1, none⟩ = some (.string s)) → (∀ o : Obj, (w3.alloc o).cell? ⟨p, 0, none⟩ = some (.int .i64 (k9 : Int)) ∧ (w3.alloc o).cell? ⟨p, 1, none⟩ = some (.slice o3 l3 p3) ∧ (w3.alloc o).cell? ⟨p, 2, none⟩ = some (.slice u3 m3 v3) ∧ (w3.alloc o).cell? ⟨p, 3, none⟩ = some (.int .i64 lo9) ∧ (w3.alloc o).cell? ⟨p, 4, none⟩ = some (.int .i64 hi9) ∧ (w3.alloc o).cell? ⟨p, 5, none⟩ = some (.bool H.sealed) ∧ (w3.alloc o).cell? ⟨p, 6, none⟩ = some (.slice ko kl kc) ∧ (w3.alloc o).cell? ⟨d, 1, none⟩ = some (.string s)) ∧ (∀ x0 x1 x2 x3 x4 x5 x6 : Value, (((((((w3.setCell ⟨wc.heap.size, 0, none⟩ x0).setCell ⟨wc.heap.size, 1, none⟩ x1).setCell ⟨wc.heap.size, 2, none⟩ x2).setCell ⟨wc.heap.size, 3, none⟩ x3).setCell ⟨wc.heap.size, 4, none⟩ x4).setCell ⟨wc.heap.size, 5, none⟩ x5).setCell ⟨wc.heap.size, 6, none⟩ x6).cell? ⟨p, 0, none⟩ = some (.int .i64 (k9 : Int)) ∧ (((((((w3.setCell ⟨wc.heap.size, 0, none⟩ x0).setCell ⟨wc.heap.size, 1, none⟩ x1).setCell ⟨wc.heap.size, 2, none⟩ x2).setCell ⟨wc.heap.size, 3, none⟩ x3).setCell ⟨wc.heap.size, 4, none⟩ x4).setCell ⟨wc.heap.size, 5, none⟩ x5).setCell ⟨wc.heap.size, 6, none⟩ x6).cell? ⟨p, 1, none⟩ = some (.slice o3 l3 p3) ∧ (((((((w3.setCell ⟨wc.heap.size, 0, none⟩ x0).setCell ⟨wc.heap.size, 1, none⟩ x1).setCell ⟨wc.heap.size, 2, none⟩ x2).setCell ⟨wc.heap.size, 3, none⟩ x3).setCell ⟨wc.heap.size, 4, none⟩ x4).setCell ⟨wc.heap.size, 5, none⟩ x5).setCell ⟨wc.heap.size, 6, none⟩ x6).cell? ⟨p, 2, none⟩ = some (.slice u3 m3 v3) ∧ (((((((w3.setCell ⟨wc.heap.size, 0, none⟩ x0).setCell ⟨wc.heap.size, 1, none⟩ x1).setCell ⟨wc.heap.size, 2, none⟩ x2).setCell ⟨wc.heap.size, 3, none⟩ x3).setCell ⟨wc.heap.size, 4, none⟩ x4).setCell ⟨wc.heap.size, 5, none⟩ x5).setCell ⟨wc.heap.size, 6, none⟩ x6).cell? ⟨p, 3, none⟩ = some (.int .i64 lo9) ∧ (((((((w3.setCell ⟨wc.heap.size, 0, none⟩ x0).setCell ⟨wc.heap.size, 1, none⟩ x1).setCell ⟨wc.heap.size, 2, none⟩ x2).setCell ⟨wc.heap.size, 3, none⟩ x3).setCell ⟨wc.heap.size, 4, none⟩ x4).setCell ⟨wc.heap.size, 5, none⟩ x5).setCell ⟨wc.heap.size, 6, none⟩ x6).cell? ⟨p, 4, none⟩ = some (.int .i64 hi9) ∧ (((((((w3.setCell ⟨wc.heap.size, 0, none⟩ x0).setCell ⟨wc.heap.size, 1, none⟩ x1).setCell ⟨wc.heap.size, 2, none⟩ x2).setCell ⟨wc.heap.size, 3, none⟩ x3).setCell ⟨wc.heap.size, 4, none⟩ x4).setCell ⟨wc.heap.size, 5, none⟩ x5).setCell ⟨wc.heap.size, 6, none⟩ x6).cell? ⟨p, 5, none⟩ = some (.bool H.sealed) ∧ (((((((w3.setCell ⟨wc.heap.size, 0, none⟩ x0).setCell ⟨wc.heap.size, 1, none⟩ x1).setCell ⟨wc.heap.size, 2, none⟩ x2).setCell ⟨wc.heap.size, 3, none⟩ x3).setCell ⟨wc.heap.size, 4, none⟩ x4).setCell ⟨wc.heap.size, 5, none⟩ x5).setCell ⟨wc.heap.size, 6, none⟩ x6).cell? ⟨p, 6, none⟩ = some (.slice ko kl kc) ∧ (((((((w3.setCell ⟨wc.heap.size, 0, none⟩ x0).setCell ⟨wc.heap.size, 1, none⟩ x1).setCell ⟨wc.heap.size, 2, none⟩ x2).setCell ⟨wc.heap.size, 3, none⟩ x3).setCell ⟨wc.heap.size, 4, none⟩ x4).setCell ⟨wc.heap.size, 5, none⟩ x5).setCell ⟨wc.heap.size, 6, none⟩ x6).cell? ⟨d, 1, none⟩ = some (.string s))) := fun w3 h3 hS => by
      have hp3 : p < w3.heap.size := by omega
      have hd3 : d < w3.heap.size := by omega
      exact ⟨fun o => ⟨(cell_al hp3 o).trans hS.1, (cell_al hp3 o).trans hS.2.1, (cell_al hp3 o).trans hS.2.2.1, (cell_al hp3 o).trans hS.2.2.2.1, (cell_al hp3 o).trans hS.2.2.2.2.1, (cell_al hp3 o).trans hS.2.2.2.2.2.1, (cell_al hp3 o).trans hS.2.2.2.2.2.2.1, (cell_al hd3 o).trans hS.2.2.2.2.2.2.2⟩, fun x0 x1 x2 x3 x4 x5 x6 => ⟨(cell_set7 n1 x0 x1 x2 x3 x4 x5 x6).trans hS.1, (cell_set7 n1 x0 x1 x2 x3 x4 x5 x6).trans hS.2.1, (cell_set7 n1 x0 x1 x2 x3 x4 x5 x6).trans hS.2.2.1, (cell_set7 n1 x0 x1 x2 x3 x4 x5 x6).trans hS.2.2.2.1, (cell_set7 n1 x0 x1 x2 x3 x4 x5 x6).trans hS.2.2.2.2.1, (cell_set7 n1 x0 x1 x2 x3 x4 x5 x6).trans hS.2.2.2.2.2.1, (cell_set7 n1 x0 x1 x2 x3 x4 x5 x6).trans hS.2.2.2.2.2.2.1, (cell_set7 n2 x0 x1 x2 x3 x4 x5 x6).trans hS.2.2.2.2.2.2.2⟩⟩
    have HW8 : Hid (∀ W, Below wc.heap.size wc W → Calls Tryz.prog 89 #[rsVal k9 (.slice o3 l3 p3) (.slice u3 m3 v3) lo9 hi9 H.sealed (.slice ko kl kc), .string s] W fun e w3 => Below W.heap.size W w3 ∧ seAns (fun b => w.heap.size ≤ b) X w3 k9 lo9 hi9 H.sealed (.slice ko kl kc) s e (settle k9 D.tape 0 LM)) := fun W hW => HW.out W (.slice o3 l3 p3) (.slice u3 m3 v3) lo9 hi9 (HE.out.bag.below hW) (HE.out.tms.below hW) HE.out.fr (Nat.le_trans HE.out.bel.size hW.size)
    have hwz : w.heap.size ≤ wc.heap.size := HE.out.bel.size
    cases hset : settle k9 D.tape 0 LM with
    | none =>
      rw [hset] at HW8
      have HW9 : Hid (∀ W, Below wc.heap.size wc W → Calls Tryz.prog 89 #[rsVal k9 (.slice o3 l3 p3) (.slice u3 m3 v3) lo9 hi9 H.sealed (.slice ko kl kc), .string s] W fun e w3 => ∃ o4 l4 p4 u4 m4 v4, e = .returned (.tuple #[rsVal k9 (.slice o4 l4 p4) (.slice u4 m4 v4) lo9 hi9 H.sealed (.slice ko kl kc), .string s, .bool false]) ∧ Hid (Below W.heap.size W w3 ∧ Below w.heap.size w w3) ∧ wc.heap.size ≤ w3.heap.size ∧ w3.cell? ⟨p, 0, none⟩ = some (.int .i64 (k9 : Int)) ∧ w3.cell? ⟨p, 1, none⟩ = some (.slice o3 l3 p3) ∧ w3.cell? ⟨p, 2, none⟩ = some (.slice u3 m3 v3) ∧ w3.cell? ⟨p, 3, none⟩ = some (.int .i64 lo9) ∧ w3.cell? ⟨p, 4, none⟩ = some (.int .i64 hi9) ∧ w3.cell? ⟨p, 5, none⟩ = some (.bool H.sealed) ∧ w3.cell? ⟨p, 6, none⟩ = some (.slice ko kl kc) ∧ w3.cell? ⟨d, 1, none⟩ = some (.string s)) := fun W hW => by
        refine (HW8.out W hW).mono ?_
        rintro e w3 ⟨hb3, o4, l4, p4, u4, m4, v4, rfl⟩
        have hB3 := hW.trans (hb3.mono hW.size)
        exact ⟨_, _, _, _, _, _, rfl, ⟨hb3, HE.out.bel.trans (hB3.mono HE.out.bel.size)⟩, hB3.size, HS3.out w3 hB3⟩
      have HSET := hid hset
      clear HW8 HW HS3 hset
      go_upto_region 6 with fail
      go_cut [12] from 10 (fun s12 we => s12 = .bool false ∧ Below w.heap.size w we)
      case first =>
        go_region_held3 (fun w' => w'.cell? ⟨p, 0, none⟩ = some (.int .i64 (k9 : Int)) ∧ w'.cell? ⟨p, 1, none⟩ = some (.slice o3 l3 p3) ∧ w'.cell? ⟨p, 2, none⟩ = some (.slice u3 m3 v3) ∧ w'.cell? ⟨p, 3, none⟩ = some (.int .i64 lo9) ∧ w'.cell? ⟨p, 4, none⟩ = some (.int .i64 hi9) ∧ w'.cell? ⟨p, 5, none⟩ = some (.bool H.sealed) ∧ w'.cell? ⟨p, 6, none⟩ = some (.slice ko kl kc) ∧ w'.cell? ⟨d, 1, none⟩ = some (.string s)) (first | with_reducible exact hS3 | with_reducible exact hSB _ | with_reducible exact hSA _ _ _ _ _ _ _ | with_reducible exact hS0 | with_reducible exact hS1 _ | go_keep) (first | (go_at_call 89; refine Calls.mono (HW9.out _ ?_) ?_; exact ⟨rfl, rfl, rfl, (by simp), fun b hb => (by first | exact Below.heap_alloc wc _ b hb | rfl)⟩; rintro e w3 ⟨o4, l4, p4, u4, m4, v4, rfl, HG3, hz3, hS3⟩; obtain ⟨hSB, hSA⟩ := HK.out w3 hz3 hS3; try (have hzz := (HG3.out.1.block wc.heap.size (by simp)).trans (heap_alloc_new wc _); have HZZ : Hid (w3.heap[wc.heap.size]? = some rsZero) := hzz; obtain ⟨z0, z1, z2, z3, z4, z5, z6, zz⟩ := blk7' hzz; have hzl := lt_of_blk' hzz; clear hzz)))
        · have HF := hid (HG3.out.2.alloc (Nat.le_trans hwz hz3) (rsBlk k9 (.slice o4 l4 p4) (.slice u4 m4 v4) lo9 hi9 H.sealed (.slice ko kl kc)))
          clear HG3 hS3 hSB hSA HK hS0 hS1
          go_wp2_with fail
          go_meet
          exact ⟨rfl, HF.out⟩
        · have HF := hid (below_set7 HG3.out.2 hwz (.int .i64 (k9 : Int)) (.slice o4 l4 p4) (.slice u4 m4 v4) (.int .i64 lo9) (.int .i64 hi9) (.bool H.sealed) (.slice ko kl kc))
          clear HG3 hS3 hSB hSA HK hS0 hS1 HZZ z0 z1 z2 z3 z4 z5 z6 zz
          go_wp2_with fail
          go_meet
          exact ⟨rfl, HF.out⟩
      case rest =>
      obtain ⟨rfl, hb5⟩ := hcut
      have HB5 := hid hb5
      clear hb5 HK hS0 hS1 k0 k1 k2 k3 k4 k5 k6 kz
      go_wp2_with fail
      go_ret
      exact HMK2.out 7 D _ _ rfl (RStep.of_below ⟨_, _, _, HH.out⟩ (HBW.out.trans (HB5.out.mono HBW.out.size))) (KeepR.of_below (HBW.out.trans (HB5.out.mono HBW.out.size))) (.inr ⟨hf, .inl ⟨rfl, HSET.out, rfl⟩⟩)
    | some qq =>
      obtain ⟨L4, u4'⟩ := qq
      rw [hset] at HW8
      have HW9 : Hid (∀ W, Below wc.heap.size wc W → Calls Tryz.prog 89 #[rsVal k9 (.slice o3 l3 p3) (.slice u3 m3 v3) lo9 hi9 H.sealed (.slice ko kl kc), .string s] W fun e w3 => ∃ o4 l4 p4 u4 m4 v4 bag4, e = .returned (.tuple #[rsVal k9 (.slice o4 l4 p4) (.slice u4 m4 v4) lo9 hi9 H.sealed (.slice ko kl kc), .string (s.extract u4' s.size), .bool true]) ∧ Hid (Below W.heap.size W w3 ∧ Below w.heap.size w w3 ∧ BagAt w3 (.slice o4 l4 p4) bag4 ∧ Ints w3 (.slice u4 m4 v4) (nats (timesN L4)) ∧ BagOf bag4 L4 ∧ ∀ b, (Value.slice o4 l4 p4).ownBlock = some b ∨ (Value.slice u4 m4 v4).ownBlock = some b → w.heap.size ≤ b) ∧ wc.heap.size ≤ w3.heap.size ∧ w3.cell? ⟨p, 0, none⟩ = some (.int .i64 (k9 : Int)) ∧ w3.cell? ⟨p, 1, none⟩ = some (.slice o3 l3 p3) ∧ w3.cell? ⟨p, 2, none⟩ = some (.slice u3 m3 v3) ∧ w3.cell? ⟨p, 3, none⟩ = some (.int .i64 lo9) ∧ w3.cell? ⟨p, 4, none⟩ = some (.int .i64 hi9) ∧ w3.cell? ⟨p, 5, none⟩ = some (.bool H.sealed) ∧ w3.cell? ⟨p, 6, none⟩ = some (.slice ko kl kc) ∧ w3.cell? ⟨d, 1, none⟩ = some (.string s)) := fun W hW => by
        refine (HW8.out W hW).mono ?_
        rintro e w3 ⟨hb3, vb4, vt4, bag4, rfl, hg4, ht4, ho4, _, hfr4⟩
        obtain ⟨o4, p4, rfl, _, _⟩ := hg4.form
        obtain ⟨u4, v4, rfl, _⟩ := ht4.form
        have hB3 := hW.trans (hb3.mono hW.size)
        exact ⟨_, _, _, _, _, _, bag4, rfl, ⟨hb3, HE.out.bel.trans (hB3.mono HE.out.bel.size), hg4, ht4, ho4, hfr4⟩, hB3.size, HS3.out w3 hB3⟩
      have HSET := hid hset
      clear HW8 HW HS3 hset
      go_upto_region 6 with fail
      go_cut [10, 11, 12] from 10 (fun s10 s11 s12 we => ∃ q o4 l4 p4 u4 m4 v4 bag4, s10 = .pointer (some ⟨q, 0, none⟩) ∧ s11 = .string (s.extract u4' s.size) ∧ s12 = .bool true ∧ EnSt w we q k9 (.slice o4 l4 p4) (.slice u4 m4 v4) (.slice ko kl kc) lo9 hi9 H.sealed bag4 (timesN L4) ∧ BagOf bag4 L4)
      case first =>
        go_region_held3 (fun w' => w'.cell? ⟨p, 0, none⟩ = some (.int .i64 (k9 : Int)) ∧ w'.cell? ⟨p, 1, none⟩ = some (.slice o3 l3 p3) ∧ w'.cell? ⟨p, 2, none⟩ = some (.slice u3 m3 v3) ∧ w'.cell? ⟨p, 3, none⟩ = some (.int .i64 lo9) ∧ w'.cell? ⟨p, 4, none⟩ = some (.int .i64 hi9) ∧ w'.cell? ⟨p, 5, none⟩ = some (.bool H.sealed) ∧ w'.cell? ⟨p, 6, none⟩ = some (.slice ko kl kc) ∧ w'.cell? ⟨d, 1, none⟩ = some (.string s)) (first | with_reducible exact hS3 | with_reducible exact hSB _ | with_reducible exact hSA _ _ _ _ _ _ _ | with_reducible exact hS0 | with_reducible exact hS1 _ | go_keep) (first | (go_at_call 89; refine Calls.mono (HW9.out _ ?_) ?_; exact ⟨rfl, rfl, rfl, (by simp), fun b hb => (by first | exact Below.heap_alloc wc _ b hb | rfl)⟩; rintro e w3 ⟨o4, l4, p4, u4, m4, v4, bag4, rfl, HG3, hz3, hS3⟩; obtain ⟨hSB, hSA⟩ := HK.out w3 hz3 hS3; try (have hzz := (HG3.out.1.block wc.heap.size (by simp)).trans (heap_alloc_new wc _); have HZZ : Hid (w3.heap[wc.heap.size]? = some rsZero) := hzz; obtain ⟨z0, z1, z2, z3, z4, z5, z6, zz⟩ := blk7' hzz; have hzl := lt_of_blk' hzz; clear hzz)))
        · have HF := hid (EnSt.made (k := k9) (vk := .slice ko kl kc) (lo := lo9) (hi := hi9) (sl := H.sealed) HG3.out.2.2.1 HG3.out.2.2.2.1 HG3.out.2.1 HG3.out.2.2.2.2.2)
          have HO4 := hid HG3.out.2.2.2.2.1
          clear HG3 hS3 hSB hSA HK hS0 hS1
          go_wp2_with fail
          go_meet
          exact ⟨w3.heap.size, o4, l4, p4, u4, m4, v4, bag4, rfl, rfl, rfl, HF.out, HO4.out⟩
        · have HF := hid (EnSt.stored (k := k9) (vk := .slice ko kl kc) (lo := lo9) (hi := hi9) (sl := H.sealed) HZZ.out HG3.out.2.2.1 HG3.out.2.2.2.1 HG3.out.2.1 hwz HG3.out.2.2.2.2.2)
          have HO4 := hid HG3.out.2.2.2.2.1
          clear HG3 hS3 hSB hSA HK hS0 hS1 HZZ z0 z1 z2 z3 z4 z5 z6 zz
          go_wp2_with fail
          go_meet
          exact ⟨wc.heap.size, o4, l4, p4, u4, m4, v4, bag4, rfl, rfl, rfl, HF.out, HO4.out⟩
      case rest =>
      obtain ⟨q, o4, l4, p4, u4, m4, v4, bag4, rfl, rfl, rfl, hE4, ho4⟩ := hcut
      clear HK hS0 hS1 k0 k1 k2 k3 k4 k5 k6 kz t1 hpz hdz' n1 n2 HE hwz HW9
      have HE4 := hid hE4
      have HO4 := hid ho4
      have hbe := hE4.bel
      have hbw0 := HBW.out.trans (hbe.mono HBW.out.size)
      have hok4 : RsOk wc ⟨.slice o4 l4 p4, .slice u4 m4 v4, .slice ko kl kc, bag4, lo9, hi9⟩ { sk := { k := k9, lv := L4, lo := lo', hi := hi' }, sealed := H.sealed, taken := H.taken } := by
        refine ⟨hE4.bag, ho4, hE4.tms, ?_, fun hb4 => ?_⟩
        · have := (HOK.out.below hbw0).tk
          rw [HE3.out] at this
          exact this
        · have hA : A ++ B ≠ [] := fun e => by
            have h1 := HO0.out
            rw [e] at h1
            have h2 := (bag_empty h1).1 rfl
            have h3 := (settle_keeps HSET.out (by omega) hlen).1
            have h4 := (bag_empty ho4).2 (by omega)
            exact hb4 (List.eq_nil_of_length_eq_zero h4)
          exact ⟨HLO.out hA, HHI.out hA⟩
      have hst := HRS.out wc ⟨.slice o4 l4 p4, .slice u4 m4 v4, .slice ko kl kc, bag4, lo9, hi9⟩ { sk := { k := k9, lv := L4, lo := lo', hi := hi' }, sealed := H.sealed, taken := H.taken } (s.extract u4' s.size) hbw0 hok4 (fun b e => by
        rcases e with e | e | e
        · exact .inr (Nat.le_trans HBW.out.size (hE4.fr b (.inl e)))
        · exact .inr (Nat.le_trans HBW.out.size (hE4.fr b (.inr e)))
        · exact .inl (HFS.out b (.inr (.inr (by rw [HE3.out]; exact e))))) (are_extract HCN.out)
      rw [coins_extract, HTP.out] at hst
      have HST := hid hst
      have HKP := hid (HKK.out wc ⟨.slice o4 l4 p4, .slice u4 m4 v4, .slice ko kl kc, bag4, lo9, hi9⟩ { sk := { k := k9, lv := L4, lo := lo', hi := hi' }, sealed := H.sealed, taken := H.taken } (s.extract u4' s.size) hbw0)
      obtain ⟨k0, k1, k2, k3, k4, k5, k6, kz⟩ := blk7' HE4.out.blk
      have hqz := lt_of_blk' HE4.out.blk
      have q0' := (hbe.cell (p := ⟨g, i * 7, none⟩) hg).trans q0
      have q1' := (hbe.cell (p := ⟨g, i * 7 + 1, none⟩) hg).trans q1
      have q2' := (hbe.cell (p := ⟨g, i * 7 + 2, none⟩) hg).trans q2
      have q3' := (hbe.cell (p := ⟨g, i * 7 + 3, none⟩) hg).trans q3
      have q4' := (hbe.cell (p := ⟨g, i * 7 + 4, none⟩) hg).trans q4
      have q5' := (hbe.cell (p := ⟨g, i * 7 + 5, none⟩) hg).trans q5
      have q6' := (hbe.cell (p := ⟨g, i * 7 + 6, none⟩) hg).trans q6
      have d1' := (hbe.cell (p := ⟨d, 1, none⟩) hdz).trans c1
      have d2' := (hbe.cell (p := ⟨d, 2, none⟩) hdz).trans c2
      have hgz := Nat.lt_of_lt_of_le hg hbe.size
      have hdz' := Nat.lt_of_lt_of_le hdz hbe.size
      have gz : ∀ j, wc.frozen? ⟨g, j, none⟩ = false := fun j => (frozen_below hbe hg j).trans (qz j)
      have dz : ∀ j, wc.frozen? ⟨d, j, none⟩ = false := fun j => (frozen_below hbe hdz j).trans (cz j)
      clear hE4 ho4 hok4 hst hbe hbw0 q0 q1 q2 q3 q4 q5 q6 c0 c1 c2 cz qz HRS HLO HHI HOK HFS HO0 HBK
      go_upto_region 9 with fail
      go_region
      go_wp2_with fail
      go_ret
      exact HMK2.out 0 _ _ _ rfl HST.out.drew HKP.out.drew (.inr ⟨hf, .inr ⟨rfl, L4, u4', HSET.out, rfl⟩⟩)
  · go_wp2_with fail
    go_ret
    exact HMK2.out 6 D _ _ rfl (RStep.of_below ⟨_, _, _, HH.out⟩ (HBW.out.trans (HB2.out.mono HBW.out.size))) (KeepR.of_below (HBW.out.trans (HB2.out.mono HBW.out.size))) (.inl ⟨rfl, by omega, rfl⟩)

end Go.Proofs.YtklicjbpjigfdabGreat
