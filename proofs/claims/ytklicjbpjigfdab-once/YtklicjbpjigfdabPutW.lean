/- DERIVED. The walk of put: a number comes into what came in. -/
import Derived.Test.YtklicjbpjigfdabMu
import Derived.Test.YtklicjbpjigfdabNl
import Derived.Test.YtklicjbpjigfdabTapeW
import Derived.BigRegion
namespace Go.Proofs.Ytklicjbpjigfdab
open Go.RowKit
variable {G : Nat → Prop}

abbrev sdBlk (vx vw : Value) (n : Int) (k : Nat) (ones gone : Bool) : Obj := .cells #[vx, vw, .int .i64 n, .int .i64 (k : Int), .bool ones, .bool gone] 93 (0, 0)

/-- What put leaves. -/
def PutPost (G : Nat → Prop) (p : Nat) (s : Sd) (x : Int) (wt : Nat) (w w' : World) : Prop :=
  ∃ vx' vw', SideAt (fun b => (G b ∨ w.heap.size ≤ b) ∧ b < w'.heap.size) w' p (s.put x wt) vx' vw' ∧ Fr G w w'

theorem SideAt.drew {w : World} {p : Nat} {s : Sd} {vx vw : Value} (h : SideAt G w p s vx vw) : SideAt G w.drew p s vx vw := ⟨h.blk, h.gp, h.ix, h.iw, h.gx, h.gw, h.ne, h.len⟩
theorem PutPost.drew {p : Nat} {s : Sd} {x : Int} {wt : Nat} {w w' : World} (h : PutPost G p s x wt w w') : PutPost G p s x wt w w'.drew := by
  obtain ⟨vx', vw', h1, h2⟩ := h
  exact ⟨vx', vw', h1.drew, ⟨h2.os, h2.tape, h2.output, h2.size, h2.block⟩⟩

/-- A row that another row's growth does not touch. -/
theorem row_far {w w1 : World} {b : Nat} {e : TypeId} {size : Nat} {v u : Value} {n : Nat} {xs : List Value} {o : Obj} (h : w.ownsRow b e size v n xs) (hg : (w.alloc o).grownBy w1 u.ownBlock) (hne : ∀ c, v.ownBlock = some c → u.ownBlock ≠ some c) : w1.ownsRow b e size v n xs :=
  ownsRow_block h (fun c hc => (hg.block c (by have := ownsRow_lt h hc; simp; omega) (fun e => hne c hc e.symm)).trans (Below.heap_alloc _ _ _ (ownsRow_lt h hc)))
theorem blk_far {w w1 : World} {p : Nat} {u : Value} {o o' : Obj} (h : w.heap[p]? = some o') (hg : (w.alloc o).grownBy w1 u.ownBlock) (hne : u.ownBlock ≠ some p) : w1.heap[p]? = some o' :=
  (hg.block p (by have := lt_of_blk' h; simp; omega) (fun e => hne e.symm)).trans ((Below.heap_alloc _ _ _ (lt_of_blk' h)).trans h)

theorem row_set {w : World} {b : Nat} {e : TypeId} {size : Nat} {v : Value} {n : Nat} {xs : List Value} {p : Nat} (h : w.ownsRow b e size v n xs) (hne : ∀ c, v.ownBlock = some c → c ≠ p) : ∀ V, (w.setCell ⟨p, 0, none⟩ V).ownsRow b e size v n xs :=
  fun _ => ownsRow_block h (fun c hc => Below.heap_setCell _ _ _ _ (hne c hc))
theorem sd_set0 {w : World} {p : Nat} {vx vw : Value} {n : Int} {k : Nat} {ones gone : Bool} (h : w.heap[p]? = some (sdBlk vx vw n k ones gone)) (V : Value) : (w.setCell ⟨p, 0, none⟩ V).heap[p]? = some (sdBlk V vw n k ones gone) := by
  have := blk_set (i := 0) V h
  simpa using this
theorem sd_set1 {w : World} {p : Nat} {vx vw : Value} {n : Int} {k : Nat} {ones gone : Bool} (h : w.heap[p]? = some (sdBlk vx vw n k ones gone)) (V : Value) : (w.setCell ⟨p, 1, none⟩ V).heap[p]? = some (sdBlk vx V n k ones gone) := by
  have := blk_set (i := 1) V h
  simpa using this

/-- The number was there: its weight is stored. -/
theorem put_found {p i g c : Nat} {s : Sd} {x : Int} {wt : Nat} {vx : Value} {w wA : World} (h : SideAt G w p s vx (.slice (some ⟨g, 0, none⟩) s.ws.length c)) (hA : wA = w.setCell ⟨p, 2, none⟩ (.int .i64 ((s.n : Int) + (wt : Int)))) (hf : findAt x 0 s.xs = some i) (hlt : ∀ b, G b → b < w.heap.size) :
    PutPost G p s x wt w (wA.setCell ⟨g, i, none⟩ (.int .i64 (((s.ws.getD i 0 : Nat) : Int) + (wt : Int)))) := by
  subst hA
  obtain ⟨_, hi, _⟩ := findAt_some hf
  have hiw : i < s.ws.length := by rw [← h.len]; simpa using hi
  have hpz := lt_of_blk' h.blk
  have hgw : G g := h.gw g rfl
  obtain ⟨cw, hcw⟩ := h.iw.kind (b := g) rfl
  have hpg : g ≠ p := fun e => by subst e; rw [h.blk] at hcw; cases hcw
  have hkA : IntsKept w (w.setCell ⟨p, 2, none⟩ (.int .i64 ((s.n : Int) + (wt : Int)))) := IntsKept.set h.blk (by decide)
  have hixA := h.ix.kept hkA
  have hiwA := h.iw.kept hkA
  have hG : ∀ b, G b → (G b ∨ w.heap.size ≤ b) ∧ b < ((w.setCell ⟨p, 2, none⟩ (.int .i64 ((s.n : Int) + (wt : Int)))).setCell ⟨g, i, none⟩ (.int .i64 (((s.ws.getD i 0 : Nat) : Int) + (wt : Int)))).heap.size := fun b hb => ⟨.inl hb, by rw [setCell_size, setCell_size]; exact hlt b hb⟩
  refine ⟨vx, .slice (some ⟨g, 0, none⟩) s.ws.length c, ⟨?_, hG p h.gp, ?_, ?_, fun b e => hG b (h.gx b e), fun b e => hG b (h.gw b e), h.ne, ?_⟩, ((Fr.refl G w).set (fun _ => h.gp) _).set (fun _ => hgw) _⟩
  · rw [Below.heap_setCell _ _ _ _ (Ne.symm hpg)]
    have := blk_set (i := 2) (.int .i64 ((s.n : Int) + (wt : Int))) h.blk
    simpa [Sd.put] using this
  · have e : (s.put x wt).xs = s.xs := by simp [Sd.put, putXs, hf]
    rw [e]
    refine hixA.block (fun b e => Below.heap_setCell _ _ _ _ (fun e' => ?_))
    simp at e'; subst e'
    exact h.ne _ e rfl
  · have e : (s.put x wt).ws = s.ws.set i (s.ws.getD i 0 + wt) := by simp [Sd.put, putWs, hf]
    rw [e]
    have hl : (nats s.ws).length = s.ws.length := by simp [nats]
    have h2 : World.ownsRow _ _ _ _ _ _ _ := hiwA
    rw [hl] at h2
    have h3 := (h2.stored i (.int .i64 (((s.ws.getD i 0 : Nat) : Int) + (wt : Int)))).1
    have e3 : (ints (nats s.ws)).set i (.int .i64 (((s.ws.getD i 0 : Nat) : Int) + (wt : Int))) = ints (nats (s.ws.set i (s.ws.getD i 0 + wt))) := by
      simp [ints, nats, List.map_set]
    rw [e3] at h3
    exact Ints.of h3
  · simp [Sd.put, putXs, putWs, hf, h.len]

/-- The number is new: both lists have grown. -/
theorem put_new {p g2 cap2 g3 cap3 : Nat} {s : Sd} {x : Int} {wt : Nat} {vx vw : Value} {w wA w1 w2 : World} {o1 o2 : Obj} (h : SideAt G w p s vx vw) (hA : w.setCell ⟨p, 2, none⟩ (.int .i64 ((s.n : Int) + (wt : Int))) = wA) (hf : findAt x 0 s.xs = Option.none)
    (ho1 : w1.ownsRow 0 3 1 (.slice (some ⟨g2, 0, none⟩) (s.xs.length + 1) cap2) (s.xs.length + 1) (ints s.xs ++ [.int .i64 x])) (hg1 : (wA.alloc o1).grownBy w1 vx.ownBlock) (ha1 : vx.ownBlock = some g2 ∨ g2 = wA.heap.size + 1)
    (ho2 : w2.ownsRow 0 3 1 (.slice (some ⟨g3, 0, none⟩) (s.xs.length + 1) cap3) (s.xs.length + 1) (ints (nats s.ws) ++ [.int .i64 (wt : Int)])) (hg2 : ((w1.setCell ⟨p, 0, none⟩ (.slice (some ⟨g2, 0, none⟩) (s.xs.length + 1) cap2)).alloc o2).grownBy w2 vw.ownBlock) (ha2 : vw.ownBlock = some g3 ∨ g3 = w1.heap.size + 1)
    (hq2 : w2.heap[p]? = some (sdBlk (.slice (some ⟨g2, 0, none⟩) (s.xs.length + 1) cap2) vw ((s.n : Int) + (wt : Int)) s.k s.ones s.gone)) :
    PutPost G p s x wt w (w2.setCell ⟨p, 1, none⟩ (.slice (some ⟨g3, 0, none⟩) (s.xs.length + 1) cap3)) := by
  have hzA : wA.heap.size = w.heap.size := by rw [← hA, setCell_size]
  have hz1 : w.heap.size + 1 ≤ w1.heap.size := by have := hg1.size; simp at this; omega
  have hz2 : w1.heap.size + 1 ≤ w2.heap.size := by have := hg2.size; simp at this; omega
  have hpz := lt_of_blk' h.blk
  have hk2 : ∃ c, w1.heap[g2]? = some (.cells c 3 (0, 0)) := by
    rcases ho1.2 with ⟨e, _⟩ | ⟨g', c', cur, e, _, hh, _⟩
    · cases e
    · cases e; exact ⟨cur, hh⟩
  have hk3 : ∃ c, w2.heap[g3]? = some (.cells c 3 (0, 0)) := by
    rcases ho2.2 with ⟨e, _⟩ | ⟨g', c', cur, e, _, hh, _⟩
    · cases e
    · cases e; exact ⟨cur, hh⟩
  have hvxp : ∀ b, vx.ownBlock = some b → b ≠ p := fun b hb e => by
    obtain ⟨c, hc⟩ := h.ix.kind hb
    subst e; rw [h.blk] at hc; cases hc
  have hvwp : ∀ b, vw.ownBlock = some b → b ≠ p := fun b hb e => by
    obtain ⟨c, hc⟩ := h.iw.kind hb
    subst e; rw [h.blk] at hc; cases hc
  have hvxz : ∀ b, vx.ownBlock = some b → b < w.heap.size := fun b hb => ownsRow_lt h.ix hb
  have hvwz : ∀ b, vw.ownBlock = some b → b < w.heap.size := fun b hb => ownsRow_lt h.iw hb
  have hg2z : g2 < w1.heap.size := ownsRow_lt ho1 rfl
  have hg2p : g2 ≠ p := by
    rcases ha1 with e | e
    · exact hvxp _ e
    · omega
  have hg3p : g3 ≠ p := by
    rcases ha2 with e | e
    · exact hvwp _ e
    · omega
  have hg2w : vw.ownBlock ≠ some g2 := by
    rcases ha1 with e | e
    · exact h.ne _ e
    · intro e2; have := hvwz _ e2; omega
  have hg23 : g2 ≠ g3 := by
    rcases ha2 with e | e
    · intro e2; subst e2; exact hg2w e
    · omega
  have hGn : ∀ b, G b ∨ w.heap.size ≤ b → b < w2.heap.size → (G b ∨ w.heap.size ≤ b) ∧ b < (w2.setCell ⟨p, 1, none⟩ (.slice (some ⟨g3, 0, none⟩) (s.xs.length + 1) cap3)).heap.size := fun b hb hl => ⟨hb, by rw [setCell_size]; exact hl⟩
  have hpost : (s.put x wt).xs = s.xs ++ [x] ∧ (s.put x wt).ws = s.ws ++ [wt] := by simp [Sd.put, putXs, putWs, hf]
  refine ⟨.slice (some ⟨g2, 0, none⟩) (s.xs.length + 1) cap2, .slice (some ⟨g3, 0, none⟩) (s.xs.length + 1) cap3, ⟨?_, hGn p (.inl h.gp) (by omega), ?_, ?_, ?_, ?_, ?_, ?_⟩, ?_⟩
  · have := sd_set1 hq2 (.slice (some ⟨g3, 0, none⟩) (s.xs.length + 1) cap3)
    rw [this]
    simp [Sd.put]
  · rw [hpost.1]
    rw [show ints s.xs ++ [.int .i64 x] = ints (s.xs ++ [x]) by simp [ints]] at ho1
    refine (Ints.of ho1).block (fun b hb => ?_)
    simp [Value.ownBlock] at hb
    subst hb
    rw [Below.heap_setCell _ _ _ _ hg2p, hg2.block _ (by simp; omega) (fun e => hg2w e.symm), Below.heap_alloc _ _ _ (by rw [setCell_size]; exact hg2z), Below.heap_setCell _ _ _ _ hg2p]
  · rw [hpost.2]
    rw [show ints (nats s.ws) ++ [.int .i64 (wt : Int)] = ints (nats (s.ws ++ [wt])) by simp [ints, nats]] at ho2
    refine (Ints.of ho2).block (fun b hb => ?_)
    simp [Value.ownBlock] at hb
    subst hb
    exact Below.heap_setCell _ _ _ _ hg3p
  · intro b hb
    simp [Value.ownBlock] at hb
    subst hb
    refine hGn _ ?_ (by omega)
    rcases ha1 with e | e
    · exact .inl (h.gx _ e)
    · exact .inr (by omega)
  · intro b hb
    simp [Value.ownBlock] at hb
    subst hb
    refine hGn _ ?_ (ownsRow_lt ho2 rfl)
    rcases ha2 with e | e
    · exact .inl (h.gw _ e)
    · exact .inr (by omega)
  · intro b hb e
    simp [Value.ownBlock] at hb e
    omega
  · rw [hpost.1, hpost.2]; simp [h.len]
  · have f0 : Fr G w wA := by rw [← hA]; exact (Fr.refl G w).set (fun _ => h.gp) _
    have f1 : Fr G w w1 := f0.trans (T := fun b => vx.ownBlock = some b) ⟨hg1.os, hg1.tape, hg1.output, by have := hg1.size; simp at this; omega, fun b hb hn => (hg1.block b (by simp; omega) (fun e => hn e.symm)).trans (Below.heap_alloc _ _ _ hb)⟩ (fun b _ e => h.gx b e)
    have f2 := f1.set (a := ⟨p, 0, none⟩) (fun _ => h.gp) (.slice (some ⟨g2, 0, none⟩) (s.xs.length + 1) cap2)
    have f3 : Fr G w w2 := f2.trans (T := fun b => vw.ownBlock = some b) ⟨hg2.os, hg2.tape, hg2.output, by have := hg2.size; simp at this ⊢; omega, fun b hb hn => (hg2.block b (by simp at hb ⊢; omega) (fun e => hn e.symm)).trans (Below.heap_alloc _ _ _ hb)⟩ (fun b _ e => h.gw b e)
    exact f3.set (fun _ => h.gp) _

set_option maxHeartbeats 1000000 in
set_option maxRecDepth 100000 in
theorem put_any (p : Nat) (s : Sd) (vx vw : Value) (x : Int) (wt : Nat) (w : World) (h : SideAt G w p s vx vw) (hl : s.xs.length ≤ 1099511627776) (hn : s.n + wt ≤ 1099511627776) (hws : ∀ i, s.ws.getD i 0 ≤ 1099511627776) (hlt : ∀ b, G b → b < w.heap.size) :
    Calls Try.prog 70 #[.pointer (some ⟨p, 0, none⟩), .int .i64 x, .int .i64 (wt : Int)] w fun e w' => e = .returned (.tuple #[]) ∧ PutPost G p s x wt w w' := by
  have HH := hid h
  have HLT := hid hlt
  have HWS := hid hws
  obtain ⟨c0, c1, c2, c3, c4, c5, cz⟩ := blk6 h.blk
  have hkA : IntsKept w (w.setCell ⟨p, 2, none⟩ (.int .i64 ((s.n : Int) + (wt : Int)))) := IntsKept.set h.blk (by decide)
  obtain ⟨ao, cc, ex, hcl, hcm, hno, hso⟩ := (h.ix.kept hkA).form
  obtain ⟨bo, cb, ew, hcl2, hcm2, hno2, hso2⟩ := (h.iw.kept hkA).form
  have hblkA := blk_set (i := 2) (.int .i64 ((s.n : Int) + (wt : Int))) h.blk
  have hlen := h.len
  have hnl : (nats s.ws).length = s.xs.length := by simp [nats, hlen]
  have hKA := hid hkA
  have HBA : Hid ((w.setCell ⟨p, 2, none⟩ (.int .i64 ((s.n : Int) + (wt : Int)))).heap[p]? = some (sdBlk vx vw ((s.n : Int) + (wt : Int)) s.k s.ones s.gone)) := by simpa [Hid] using hblkA
  have hpz := lt_of_blk' h.blk
  generalize hwA : w.setCell ⟨p, 2, none⟩ (.int .i64 ((s.n : Int) + (wt : Int))) = wA at *
  have HWA := hid hwA
  have HZA : Hid (wA.heap.size = w.heap.size) := by rw [← hwA, setCell_size]; rfl
  obtain ⟨d0, d1, d2, d3, d4, d5, dz⟩ := blk6 HBA.out
  have c0' := c0
  have c1' := c1
  rw [ex] at c0' d0
  rw [ew, hnl] at c1' d1
  rw [hnl] at hcl2 hso2
  have HEX := hid ex
  have HEW := hid ew
  generalize hxs : s.xs = xs at *
  generalize hnn : xs.length = n at *
  have HN := hid hnn
  have HXS := hid hxs
  have HLEN := hid hlen
  have HNO := hid hno
  have HSO := hid hso
  have HNO2 := hid hno2
  have HSO2 := hid hso2
  have HNL := hid hnl
  clear h hno hso hno2 hso2 hnn hlen hnl hblkA hkA ex ew hws hlt hxs c0 c1
  go_enter Try.func70, Try.ntmps70
  go_wp2_with fail
  clear hwA c0' c1' c2 c3 c4 c5 cz
  go_loop [6] (fun i => ∃ k : Nat, k ≤ n ∧ i = .int .i64 k ∧ Hid (findAt x 0 xs = findAt x k (xs.drop k))) (fun i => n - (intOf i).toNat)
  case atStart => exact ⟨0, Nat.zero_le _, rfl, by simp [Hid]⟩
  case round =>
    obtain ⟨k, hk, rfl, Hf⟩ := hrel
    by_cases hkn : k < n
    · obtain ⟨gc, rfl⟩ : ∃ g, ao = some ⟨g, 0, none⟩ := by
        cases ao with
        | none => have := (HNO.out rfl).1; rw [this] at HN; have := HN.out; simp at this; omega
        | some a => obtain ⟨g, rfl, _⟩ := HSO.out a rfl; exact ⟨g, rfl⟩
      obtain ⟨gd, rfl⟩ : ∃ g, bo = some ⟨g, 0, none⟩ := by
        cases bo with
        | none => have := (HNO2.out rfl).1; have h2 := HNL.out; rw [this] at h2; simp at h2; omega
        | some a => obtain ⟨g, rfl, _⟩ := HSO2.out a rfl; exact ⟨g, rfl⟩
      obtain ⟨gc', e1, hgc, hcc⟩ := HSO.out _ rfl
      cases e1
      obtain ⟨gd', e2, hgd, hcd⟩ := HSO2.out _ rfl
      cases e2
      have hcell := hcc k hkn
      have hcell2 := hcd k hkn
      rw [nats_getD] at hcell2
      have HFD := hid (findAt_drop (x := x) (l := xs) (i := k) (by rw [HN.out]; exact hkn))
      have hwk := HWS.out k
      have hfz : wA.frozen? ⟨gd, k, none⟩ = false := by
        obtain ⟨cur, hcur⟩ := (HH.out.iw.kept hKA.out).kind (b := gd) (by rw [HEW.out]; rfl)
        simp [World.frozen?, hcur]
      have hs1 : (0 : Int) ≤ (k : Int) := by omega
      have hs2 : (k : Int) < (n : Int) := by omega
      have HWK : Hid (s.ws.getD k 0 = s.ws.getD k 0) := rfl
      generalize hy0 : xs.getD k 0 = y at *
      generalize hv0 : s.ws.getD k 0 = v at *
      have HV0 := hid hv0
      clear hcc hcd hy0 hv0 HWK
      by_cases hy : y = x
      · have hy' : (y == x) = true := by simp [hy]
        have HF : Hid (findAt x 0 s.xs = some k) := by rw [HXS.out]; have := Hf.out; rw [HFD.out, if_pos hy] at this; exact this
        clear hy
        go_wp2_with fail
        go_region
        go_wp2_with fail
        refine bodyPost_ret (v := .tuple #[]) (by simp [results, Try.results70]) rfl ⟨rfl, ?_⟩
        have h9 := HH.out
        rw [HEW.out, HNL.out, HLEN.out] at h9
        have := put_found (x := x) (wt := wt) h9 HWA.out.symm HF.out HLT.out
        rw [HV0.out] at this
        exact this.drew
      · have hy' : (y == x) = false := by simp [hy]
        go_wp2_with fail
        go_round
        case rel =>
          refine ⟨k + 1, by omega, by go_num, ?_⟩
          have := Hf.out; rw [HFD.out, if_neg hy] at this; exact this
        case measure => simp [intOf]; omega
    · have HF : Hid (findAt x 0 s.xs = Option.none) := by
        rw [HXS.out]
        have := Hf.out
        rw [List.drop_eq_nil_of_le (by rw [HN.out]; omega), findAt] at this
        exact this
      have HKX : Hid (∀ b, vx.ownBlock = some b → b ≠ p) := fun b hb e => by
        obtain ⟨c, hc⟩ := HH.out.ix.kind hb
        subst e; rw [HH.out.blk] at hc; cases hc
      have HKW : Hid (∀ b, vw.ownBlock = some b → b ≠ p) := fun b hb e => by
        obtain ⟨c, hc⟩ := HH.out.iw.kind hb
        subst e; rw [HH.out.blk] at hc; cases hc
      have HRX : Hid (wA.ownsRow 0 3 1 (.slice ao n cc) n (ints xs)) := by
        have := HH.out.ix.kept hKA.out
        rw [HEX.out, HXS.out] at this
        have h2 : World.ownsRow _ _ _ _ _ _ _ := this
        rw [HN.out] at h2
        exact h2
      have HRW : Hid (wA.ownsRow 0 3 1 (.slice bo n cb) n (ints (nats s.ws))) := by
        have := HH.out.iw.kept hKA.out
        rw [HEW.out] at this
        have h2 : World.ownsRow _ _ _ _ _ _ _ := this
        rw [HNL.out] at h2
        exact h2
      have HVX : Hid (vx = .slice ao n cc) := HEX.out
      have HVW : Hid (vw = .slice bo n cb) := by rw [HEW.out, HNL.out]; rfl
      obtain ⟨i0, hi0, hz0, hz1, hz2⟩ := info_parts Try.infoInt
      go_wp2_with (first | (at_builtin; refine wpList_append_lies _ rfl (.tmp 53) (.tmp 55) 91 rfl 0 3 i0 (.int .i64 0) 1 8 Try.underlying91 hi0 hz0 hz1 hz2 rfl (by decide) (.slice ao n cc) n (ints xs) rfl (HRX.out.alloc _) ⟨wA.heap.size, 0, none⟩ 1 1 [.int .i64 x] rfl rfl (one_new _ _ _) (one_cell _ _) (by decide) (by unfold maxLen; omega) (by omega) (Nat.zero_le _) (wA.heap.size + 1) (by simp) ?_; intro g2 cap2 w1 hown1 hgrow1 hat1 hlt1; have hq1 := blk_far HBA.out hgrow1 (by rw [← HVX.out]; exact fun e => HKX.out p e rfl); obtain ⟨q0, q1, q2, q3, q4, q5, qz⟩ := blk6 hq1; rw [HVW.out] at q1; have HQ1 := hid hq1; have HO1 := hid hown1; have HG1 := hid hgrow1; have HA1 := hid hat1; have HR1 := hid (row_far HRW.out hgrow1 (fun c hc e => HH.out.ne c (by rw [HVX.out]; exact e) (by rw [HVW.out]; exact hc))); have HR1' := hid (row_set HR1.out (p := p) (fun c hc => HKW.out c (by rw [HVW.out]; exact hc))); have HQ1' := hid (fun V => sd_set0 HQ1.out V); clear hq1 hown1 hgrow1 hat1) | (at_builtin; refine wpList_append_lies _ rfl (.tmp 63) (.tmp 65) 91 rfl 0 3 i0 (.int .i64 0) 1 8 Try.underlying91 hi0 hz0 hz1 hz2 rfl (by decide) (.slice bo n cb) n (ints (nats s.ws)) rfl ((HR1'.out _).alloc _) ⟨w1.heap.size, 0, none⟩ 1 1 [.int .i64 (wt : Int)] rfl rfl (one_new' (setCell_size _ _ _) _ _) (one_cell _ _) (by decide) (by unfold maxLen; omega) (by omega) (Nat.zero_le _) (w1.heap.size + 1) (by rw [World.size_alloc, setCell_size]) ?_; intro g3 cap3 w2 hown2 hgrow2 hat2 hlt2; have hq2 := blk_far (HQ1'.out _) hgrow2 (by rw [← HVW.out]; exact fun e => HKW.out p e rfl); obtain ⟨r0, r1, r2, r3, r4, r5, rz⟩ := blk6 hq2; have HQ2 := hid hq2; have HO2 := hid hown2; have HG2 := hid hgrow2; have HA2 := hid hat2; clear hq2 hown2 hgrow2 hat2))
      go_end0
      refine ⟨rfl, ?_⟩
      have hxl : s.xs.length = n := by rw [HXS.out]; exact HN.out
      have ho1 := HO1.out
      have hg1 := HG1.out
      have ha1 := HA1.out
      have ho2 := HO2.out
      have hg2 := HG2.out
      have ha2 := HA2.out
      have hq2 := HQ2.out
      rw [← HVX.out] at hg1 ha1
      rw [← HVW.out] at hg2 ha2
      rw [← HXS.out] at ho1
      rw [← hxl] at ho1 ho2 hg2 hq2 ⊢
      exact put_new HH.out HWA.out HF.out ho1 hg1 ha1 ho2 hg2 ha2 hq2

end Go.Proofs.Ytklicjbpjigfdab
