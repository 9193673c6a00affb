/- DERIVED. The walk of the statement's own merge: sketch j comes into sketch i, a coin more each time till the coins suffice. -/
import Derived.Test.YtklicjbpjigfdabQ16
import Derived.Test.YtklicjbpjigfdabQ10
import Derived.Test.YtklicjbpjigfdabQ14
namespace Go.Proofs.Ytklicjbpjigfdab
open Go.RowKit
variable {K : Nat → Prop} {w0 : World} {nw : Nat}

/-- The world behind it. -/
def Wd.joined (W : Wd) (i j : Nat) (L' : List Lvl) (u a : Nat) : Wd :=
  { W with D := { W.D with tape := [], sks := W.D.sks.set i { sk := { k := mgK (W.D.sks.getD i Hd.none) (W.D.sks.getD j Hd.none), lv := L', lo := mgLo (W.D.sks.getD i Hd.none) (W.D.sks.getD j Hd.none), hi := mgHi (W.D.sks.getD i Hd.none) (W.D.sks.getD j Hd.none) }, sealed := (W.D.sks.getD i Hd.none).sealed, taken := (W.D.sks.getD i Hd.none).taken } }, sd := fun b => if b = i then (W.sd i).all (W.sd j) else W.sd b, used := W.used + u, at_ := a }
/-- What merge leaves. -/
def MergePost (K : Nat → Prop) (w0 : World) (p d nw i j : Nat) (ps : Nat → Nat) (W : Wd) (w' : World) : Prop :=
  (268435456 < wsum (W.D.sks.getD i Hd.none).sk.lv + wsum (W.D.sks.getD j Hd.none).sk.lv ∧ WdSt K w0 w' p d nw ps W) ∨
  (wsum (W.D.sks.getD i Hd.none).sk.lv + wsum (W.D.sks.getD j Hd.none).sk.lv ≤ 268435456 ∧ ∃ cs L' a, DrawOk W cs a ∧ settle (mgK (W.D.sks.getD i Hd.none) (W.D.sks.getD j Hd.none)) cs 0 (mgL (W.D.sks.getD i Hd.none) (W.D.sks.getD j Hd.none)) = some (L', cs.length) ∧ cs.length ≤ 230 ∧ WdSt K w0 w' p d nw ps (W.joined i j L' cs.length a))

set_option maxHeartbeats 2000000 in
set_option maxRecDepth 100000 in
theorem wmerge_any (p d i j : Nat) (ps : Nat → Nat) (W : Wd) (w : World) (h : WdSt K w0 w p d nw ps W) (hi : i < nw) (hj : j < nw) (hl : W.D.sks.length = nw) (hun : (W.D.sks.getD i Hd.none).sealed = false) (ci : Came (W.D.sks.getD i Hd.none) (W.sd i)) (cj : Came (W.D.sks.getD j Hd.none) (W.sd j)) (htp : W.D.tape = []) (hat : W.at_ ≤ 140737488355328) (hcs : W.coins.size ≤ 140737488355328) (hmost : W.most = -1) (hus : W.used ≤ 1099511627776) :
    Calls Try.prog 39 #[.pointer (some ⟨p, 0, none⟩), .int .i64 (i : Int), .int .i64 (j : Int)] w fun e w' => e = .returned (.bool true) ∧ MergePost K w0 p d nw i j ps W w' := by
  have HST := hid h
  obtain ⟨own, vs, vx, vw, h, h2K, hk⟩ := h
  obtain ⟨gs, cs0, evs, hptr⟩ := h.ptr hi
  obtain ⟨gs2, cs2, evs2, hptr2⟩ := h.ptr hj
  rw [evs] at evs2
  cases evs2
  obtain ⟨c0, c1, c2, c3, c4, c5, c6, cz⟩ := blk7 h.blk
  rw [evs] at c1
  have CI := hid ci
  have HUN := hid hun
  clear hun
  have CJ := hid cj
  have HTP := hid htp
  have HL := hid hl
  have HMO := hid hmost
  have HB := hid (merge_few ci.inok.ok cj.inok.ok ci.inok.set cj.inok.set)
  have HTS : Hid (tsum (W.D.sks.getD i Hd.none).sk.lv + tsum (W.D.sks.getD j Hd.none).sk.lv ≤ 549755813888) := by
    have := ci.tn; have := cj.tn; have := ci.inok.ok.cnt; have := cj.inok.ok.cnt
    unfold Hid; omega
  generalize hpi : ps i = pi at *
  generalize hpj : ps j = pj at *
  have hs1 : (0 : Int) ≤ (i : Int) := by omega
  have hs2 : (i : Int) < (nw : Int) := by omega
  have hs3 : (0 : Int) ≤ (j : Int) := by omega
  have hs4 : (j : Int) < (nw : Int) := by omega
  clear h h2K hk evs htp hl hmost ci cj
  go_enter Try.func39, Try.ntmps39
  go_wp2_with fail
  go_loopw [9] (fun si wr => ∃ (cs : List Bool) (a : Nat), si = .int .i64 (cs.length : Int) ∧ Hid (DrawOk W cs a) ∧ cs.length ≤ 230 ∧ Hid (WdSt K w0 wr p d nw ps { W with D := { W.D with tape := cs }, used := W.used + cs.length, at_ := a }) ∧
      Hid ((cs = [] ∧ a = W.at_) ∨ (wsum (W.D.sks.getD i Hd.none).sk.lv + wsum (W.D.sks.getD j Hd.none).sk.lv ≤ 268435456 ∧ ∃ cs' c, cs = cs' ++ [c] ∧ settle (mgK (W.D.sks.getD i Hd.none) (W.D.sks.getD j Hd.none)) cs' 0 (mgL (W.D.sks.getD i Hd.none) (W.D.sks.getD j Hd.none)) = Option.none))) (fun si _ => 256 - (intOf si).toNat)
  case atStart =>
    refine ⟨[], W.at_, rfl, ⟨hat, rfl, rfl⟩, Nat.zero_le _, ?_, .inl ⟨rfl, rfl⟩⟩
    have := HST.out
    rw [wd_eta HTP.out] at this
    exact this
  case round =>
    obtain ⟨cs, a, rfl, ha, hc29, Hst, Hcs⟩ := hrel
    obtain ⟨own1, vs1, vx1, vw1, h1, h2K1, hk1⟩ := Hst.out
    obtain ⟨d0, d1, d2, d3, d4, d5, d6, dz⟩ := blk7 h1.blk
    have hA := hid (dmerge_any (F := fun b => own1 b = 1) d i j { W.D with tape := cs } wr h1.desk (by rw [HL.out]; exact hi) (by rw [HL.out]; exact hj) CI.out.inok.ok CJ.out.inok.ok HUN.out HTS.out (by show cs.length ≤ 1024; omega))
    have H1 := hid h1
    have H2 := hid h2K1
    have HK := hid hk1
    clear h1 h2K1 hk1 c0 c1 c2 c3 c4 c5 c6 cz hptr hptr2
    have hni : (W.sd i).n ≤ 268435456 := by rw [CI.out.inok.n]; exact CI.out.inok.ok.cnt
    have hnj : (W.sd j).n ≤ 268435456 := by rw [CJ.out.inok.n]; exact CJ.out.inok.ok.cnt
    by_cases hfull : wsum (W.D.sks.getD i Hd.none).sk.lv + wsum (W.D.sks.getD j Hd.none).sk.lv ≤ 268435456
    · have HFU := hid hfull
      have hfi : ¬ 268435456 - ((W.sd i).n : Int) < ((W.sd j).n : Int) := by rw [CI.out.inok.n, CJ.out.inok.n]; omega
      have hfi' : decide (268435456 - ((W.sd i).n : Int) < ((W.sd j).n : Int)) = false := decide_eq_false hfi
      go_wp2_with fail
      refine hA.out.mono ?_
      intro e w1 hans
      rw [if_pos hfull] at hans
      clear hfull
      cases hset : settle (mgK (W.D.sks.getD i Hd.none) (W.D.sks.getD j Hd.none)) cs 0 (mgL (W.D.sks.getD i Hd.none) (W.D.sks.getD j Hd.none)) with
      | none =>
        have hans' : e = .returned (.int .i64 7) ∧ Below wr.heap.size wr w1 := by
          have h9 := hans
          rw [hset] at h9
          exact h9
        obtain ⟨rfl, hb1⟩ := hans'
        have HSET := hid hset
        have hb9 := settle_none_bound hset
        have hcn : cs.length < 230 := by have := HB.out; omega
        have hst1 := Hst.out.below hb1
        have HM := hid (more_any p d nw ps _ w1 hst1 ha.out.1 hcs HMO.out (by show W.used + cs.length ≤ _; omega) (by show cs.length < 1024; omega))
        clear hans hset hb1 hst1
        go_wp2_with fail
        refine HM.out.mono ?_
        rintro e w2 ⟨c, a2, rfl, ha2, hst2⟩
        have HA2 := hid ha2
        clear ha2
        have HS2 := hid hst2
        clear hst2
        go_wp2_with fail
        go_roundw
        case rel =>
          refine ⟨cs ++ [c], a2, by simp, ha.out.snoc HA2.out, by simp; omega, ?_, .inr ⟨HFU.out, cs, c, rfl, HSET.out⟩⟩
          have := HS2.out
          simpa [Hid, Nat.add_assoc] using this
        case measure => simp [intOf]; omega
      | some q =>
        obtain ⟨L', u⟩ := q
        have hans' : e = .returned (.int .i64 0) ∧ DeskStep (fun b => own1 b = 1) wr w1 d { W.D with tape := cs.drop u, sks := W.D.sks.set i { sk := { k := mgK (W.D.sks.getD i Hd.none) (W.D.sks.getD j Hd.none), lv := L', lo := mgLo (W.D.sks.getD i Hd.none) (W.D.sks.getD j Hd.none), hi := mgHi (W.D.sks.getD i Hd.none) (W.D.sks.getD j Hd.none) }, sealed := (W.D.sks.getD i Hd.none).sealed, taken := (W.D.sks.getD i Hd.none).taken } } := by
          have h9 := hans
          rw [hset] at h9
          exact h9
        obtain ⟨rfl, hst1⟩ := hans'
        have hu : u = cs.length := by
          rcases Hcs.out with ⟨e, _⟩ | ⟨_, cs', c, e, e2⟩
          · subst e; have := settle_used hset; simp at this; simpa using this
          · rw [e] at hset
            have := settle_last e2 hset
            rw [e]; simp; omega
        subst hu
        rw [List.drop_length] at hst1
        have hw1 := H1.out.deskStep H2.out HK.out hst1
        have HSET := hid hset
        have HCL := hid (clean_any p d nw ps _ w1 hw1)
        have HAL := hid (fun (wx : World) (hx : WdSt K w0 wx p d nw ps { W with D := { W.D with tape := [], sks := W.D.sks.set i { sk := { k := mgK (W.D.sks.getD i Hd.none) (W.D.sks.getD j Hd.none), lv := L', lo := mgLo (W.D.sks.getD i Hd.none) (W.D.sks.getD j Hd.none), hi := mgHi (W.D.sks.getD i Hd.none) (W.D.sks.getD j Hd.none) }, sealed := (W.D.sks.getD i Hd.none).sealed, taken := (W.D.sks.getD i Hd.none).taken } }, used := W.used + cs.length, at_ := a }) => all_any (K := K) (w0 := w0) p d i j _ _ ps _ wx hx hi hj CI.out CJ.out)
        have HW1 : Hid (WdSt K w0 w1 p d nw ps { W with D := { W.D with tape := [], sks := W.D.sks.set i { sk := { k := mgK (W.D.sks.getD i Hd.none) (W.D.sks.getD j Hd.none), lv := L', lo := mgLo (W.D.sks.getD i Hd.none) (W.D.sks.getD j Hd.none), hi := mgHi (W.D.sks.getD i Hd.none) (W.D.sks.getD j Hd.none) }, sealed := (W.D.sks.getD i Hd.none).sealed, taken := (W.D.sks.getD i Hd.none).taken } }, used := W.used + cs.length, at_ := a }) := hw1
        obtain ⟨own2, vs2, vx2, vw2, h2, h2K2, hk2⟩ := hw1
        have hsd := (h2.side i hi).blk
        have hsd2 := (h2.side j hj).blk
        rw [hpi] at hsd HAL
        rw [hpj] at hsd2 HAL
        have s2' : w1.cell? ⟨pi, 2, none⟩ = some (.int .i64 ((W.sd i).n : Int)) := (blk6 hsd).2.2.1
        have t2' : w1.cell? ⟨pj, 2, none⟩ = some (.int .i64 ((W.sd j).n : Int)) := (blk6 hsd2).2.2.1
        clear hans hset hst1 h2 h2K2 hk2 hsd hsd2
        generalize (W.sd i).n = ni at *
        generalize (W.sd j).n = nj at *
        go_wp2_with (first | (go_at_call 72; refine HCL.out.mono ?_; rintro e w' ⟨rfl, hw⟩; obtain rfl := hw.symm))
        go_quiet (fail)
        go_wp2_with fail
        refine (HAL.out _ HW1.out.drewN).mono ?_
        rintro e w3 ⟨rfl, hst3⟩
        have HS3 := hid hst3
        clear hst3 HAL HW1
        go_wp2_with fail
        go_ret
        exact ⟨rfl, .inr ⟨HFU.out, cs, L', a, ha.out, HSET.out, hc29, HS3.out⟩⟩
    · go_wp2_with fail
      refine hA.out.mono ?_
      intro e w1 hans
      rw [if_neg hfull] at hans
      obtain ⟨rfl, hb1⟩ := hans
      have hcs0 : cs = [] ∧ a = W.at_ := by
        rcases Hcs.out with e | e
        · exact e
        · exact absurd e.1 hfull
      obtain ⟨hc0, ha0⟩ := hcs0
      subst hc0
      have HA0 := hid ha0
      clear ha0
      have hst1 := Hst.out.below hb1
      have HCL := hid (clean_any p d nw ps _ w1 hst1)
      obtain ⟨own2, vs2, vx2, vw2, h2, _⟩ := hst1
      have hsd := (h2.side i hi).blk
      have hsd2 := (h2.side j hj).blk
      rw [hpi] at hsd
      rw [hpj] at hsd2
      have s2' : w1.cell? ⟨pi, 2, none⟩ = some (.int .i64 ((W.sd i).n : Int)) := (blk6 hsd).2.2.1
      have t2' : w1.cell? ⟨pj, 2, none⟩ = some (.int .i64 ((W.sd j).n : Int)) := (blk6 hsd2).2.2.1
      have HS1 := hid (Hst.out.below hb1)
      have hfi : 268435456 - ((W.sd i).n : Int) < ((W.sd j).n : Int) := by rw [CI.out.inok.n, CJ.out.inok.n]; omega
      have hfi' : decide (268435456 - ((W.sd i).n : Int) < ((W.sd j).n : Int)) = true := decide_eq_true hfi
      have HFU := hid hfull
      clear hb1 h2 hfull hsd hsd2
      generalize (W.sd i).n = ni at *
      generalize (W.sd j).n = nj at *
      go_wp2_with (first | (go_at_call 72; refine HCL.out.mono ?_; rintro e w' ⟨rfl, hw⟩; obtain rfl := hw.symm))
      go_quiet (fail)
      go_wp2_with fail
      go_ret
      refine ⟨rfl, .inl ⟨by have := HFU.out; omega, ?_⟩⟩
      have := HS1.out
      rw [HA0.out] at this
      rw [wd_eta HTP.out]
      exact this.drewN

end Go.Proofs.Ytklicjbpjigfdab

/- DERIVED. The walks of adds and of the statement Weighs itself. -/
namespace Go.Proofs.Ytklicjbpjigfdab
open Go.RowKit
variable {K : Nat → Prop} {w0 : World}

/-- What holds of the statement's world all the way. -/
structure WInv (W : Wd) : Prop where
  len : W.D.sks.length = 3
  tape : W.D.tape = []
  at_ : W.at_ ≤ 140737488355328
  coins : W.coins.size ≤ 140737488355328
  most : W.most = -1
  used : W.used ≤ 29 * ((W.sd 0).n + (W.sd 1).n + (W.sd 2).n)
  came : ∀ i, i < 3 → Came (W.D.sks.getD i Hd.none) (W.sd i)
  uns : ∀ i, i < 3 → (W.D.sks.getD i Hd.none).sealed = false

theorem WInv.ok {W : Wd} (h : WInv W) : WdOk W := by
  have h0 := (h.came 0 (by omega)).inok
  have h1 := (h.came 1 (by omega)).inok
  have h2 := (h.came 2 (by omega)).inok
  have c0 := h0.ok.cnt
  have c1 := h1.ok.cnt
  have c2 := h2.ok.cnt
  have n0 := h0.n
  have n1 := h1.n
  have n2 := h2.n
  have hu := h.used
  exact ⟨h.len, h.tape, h.at_, h.coins, h.most, by omega, fun i hi => (h.came i hi).inok, h.uns⟩

theorem sealed_set {l : List Hd} {i j : Nat} {x : Hd} (hj : (l.getD j Hd.none).sealed = false) (hx : x.sealed = false) : ((l.set i x).getD j Hd.none).sealed = false := by
  by_cases e : i = j
  · subst e
    by_cases hl : i < l.length
    · simp [List.getD, hl, hx]
    · rw [List.set_eq_of_length_le (by omega)]; exact hj
  · simp only [List.getD]
    rw [List.getElem?_set_ne e]; exact hj
theorem WInv.add {W : Wd} {p d i : Nat} {ps : Nat → Nat} {x : Int} {wt : Nat} {w' : World} (h : WInv W) (hi : i < 3) (hw1 : 1 ≤ wt) (hw2 : wt ≤ 268435456) (ha : AddPost K w0 p d 3 i ps x wt W w') : ∃ W', WdSt K w0 w' p d 3 ps W' ∧ WInv W' := by
  rcases ha with ⟨_, hst⟩ | ⟨hf, cs, L', a, ha, hs, hcs, hst⟩
  · exact ⟨W, hst, h⟩
  · refine ⟨_, hst, ⟨?_, rfl, ha.1, h.coins, h.most, ?_, fun j hj => ?_, fun j hj => sealed_set (h.uns j hj) (h.uns i hi)⟩⟩
    · show (W.D.sks.set i _).length = 3
      rw [List.length_set]; exact h.len
    · have hu := h.used
      show W.used + cs.length ≤ 29 * ((if 0 = i then (W.sd i).took x wt else W.sd 0).n + (if 1 = i then (W.sd i).took x wt else W.sd 1).n + (if 2 = i then (W.sd i).took x wt else W.sd 2).n)
      have ht : ((W.sd i).took x wt).n = (W.sd i).n + wt := rfl
      have : i = 0 ∨ i = 1 ∨ i = 2 := by omega
      rcases this with rfl | rfl | rfl
      · rw [if_pos rfl, if_neg (by omega), if_neg (by omega), ht]; omega
      · rw [if_neg (by omega), if_pos rfl, if_neg (by omega), ht]; omega
      · rw [if_neg (by omega), if_neg (by omega), if_pos rfl, ht]; omega
    · show Came ((W.D.sks.set i _).getD j Hd.none) (if j = i then (W.sd i).took x wt else W.sd j)
      by_cases e : j = i
      · subst e
        rw [if_pos rfl]
        have : (W.D.sks.set j { sk := { k := (W.D.sks.getD j Hd.none).sk.k, lv := L', lo := addLo (W.D.sks.getD j Hd.none) x, hi := addHi (W.D.sks.getD j Hd.none) x }, sealed := (W.D.sks.getD j Hd.none).sealed, taken := (W.D.sks.getD j Hd.none).taken }).getD j Hd.none = { sk := { k := (W.D.sks.getD j Hd.none).sk.k, lv := L', lo := addLo (W.D.sks.getD j Hd.none) x, hi := addHi (W.D.sks.getD j Hd.none) x }, sealed := (W.D.sks.getD j Hd.none).sealed, taken := (W.D.sks.getD j Hd.none).taken } := by
          have hjl : j < W.D.sks.length := by rw [h.len]; exact hj
          simp only [List.getD]
          rw [List.getElem?_set_self hjl]
          rfl
        rw [this]
        exact came_took (h.came j hj) hw1 hw2 hf hs
      · rw [if_neg e]
        have : ∀ z, (W.D.sks.set i z).getD j Hd.none = W.D.sks.getD j Hd.none := fun z => by
          simp only [List.getD]
          rw [List.getElem?_set_ne (Ne.symm e)]
        rw [this]
        exact h.came j hj

theorem came_begun (k : Nat) (h1 : 2 ≤ k) (h2 : k ≤ 64) : Came (Hd.begun k) (Sd.begun k) := by
  refine ⟨⟨⟨h1, h2, by simp [Hd.begun], by simp [Hd.begun], by simp [Hd.begun, wsum, Lvl.none], fun j => ?_⟩, by simp [Hd.begun, Sd.begun, wsum, Lvl.none], ?_, by simp [Sd.begun], fun i => by simp [Sd.begun]⟩, rfl, rfl, rfl, ?_, by simp [Hd.begun, tsum, nsum, wsum, Lvl.none], .inl rfl, fun v hv => by simp [Sd.begun] at hv⟩
  · have := tsum_at [Lvl.none] j
    show ([Lvl.none].getD j Lvl.none).times ≤ _
    simp only [tsum, Lvl.none] at this ⊢
    omega
  · show nsum [Lvl.none] ≤ _
    simp [nsum, Lvl.none]
  · intro l hl
    have : l = Lvl.none := by simpa [Hd.begun] using hl
    subst this
    exact ⟨List.Pairwise.nil, fun x hx => by simp [Lvl.none] at hx⟩
theorem first_inv (k : Int) (coins : ByteArray) (hc : coins.size ≤ 140737488355328) : WInv (Wd.first k coins 3) := by
  have b0 := kOf_bd k 0
  have b1 := kOf_bd k 1
  have b2 := kOf_bd k 2
  refine ⟨rfl, rfl, Nat.zero_le _, hc, rfl, Nat.zero_le _, fun i hi => ?_, fun i hi => ?_⟩
  rotate_left
  · have : i = 0 ∨ i = 1 ∨ i = 2 := by omega
    rcases this with rfl | rfl | rfl <;> rfl
  have : i = 0 ∨ i = 1 ∨ i = 2 := by omega
  rcases this with rfl | rfl | rfl
  · exact came_begun _ b0.1 b0.2
  · exact came_begun _ b1.1 b1.2
  · exact came_begun _ b2.1 b2.2

/-- A step of a script: its four numbers. -/
structure St where
  kd : Int
  a : Int
  b : Int
  c : Int
def St.zero : St := ⟨0, 0, 0, 0⟩
def St.cells (s : St) : List Value := [.int .i64 s.kd, .int .i64 s.a, .int .i64 s.b, .int .i64 s.c]
def stCells : List St → List Value
  | [] => []
  | s :: l => s.cells ++ stCells l
theorem stCells_length : ∀ l : List St, (stCells l).length = l.length * 4
  | [] => rfl
  | s :: l => by simp only [stCells, List.length_append, stCells_length l, St.cells, List.length_cons, List.length_nil]; omega
theorem stCells_snoc (l : List St) (s : St) : stCells (l ++ [s]) = stCells l ++ s.cells := by
  induction l with
  | nil => simp [stCells]
  | cons a l ih => simp [stCells, ih]
theorem stCells_at : ∀ (l : List St) (i j : Nat), i < l.length → j < 4 → (stCells l)[i * 4 + j]? = ((l.getD i St.zero).cells)[j]? := by
  intro l
  induction l with
  | nil => intro i j h; simp at h
  | cons s l ih =>
    intro i j h hj
    cases i with
    | zero => simp only [stCells, Nat.zero_mul, Nat.zero_add]; rw [List.getElem?_append_left (by simp [St.cells]; omega)]; rfl
    | succ i =>
      simp only [stCells]
      rw [List.getElem?_append_right (by simp [St.cells]; omega), show (i + 1) * 4 + j - s.cells.length = i * 4 + j by simp [St.cells]; omega, ih i j (by simpa using h) hj]
      rfl
/-- The steps that let a number come in. -/
def isAdd (s : St) : Bool := s.kd != 1

theorem Try.infoStep : (Try.prog.info? 39).map (fun i => (i.zero, i.size, i.bytes)) = some (some (.agg #[.int .i64 0, .int .i64 0, .int .i64 0, .int .i64 0]), 4, 32) := by kernel_rfl
theorem four_new {w : World} (a b c d : Value) (e : TypeId) : ∀ j u, [a, b, c, d][j]? = some u → (w.alloc (.cells #[a, b, c, d] e)).cell? ((⟨w.heap.size, 0, none⟩ : Addr).add j) = some u := by
  intro j u hu
  match j, hu with
  | 0, hu => simp at hu; subst hu; simp [Addr.add]
  | 1, hu => simp at hu; subst hu; simp [Addr.add]
  | 2, hu => simp at hu; subst hu; simp [Addr.add]
  | 3, hu => simp at hu; subst hu; simp [Addr.add]
theorem filter_step {l : List St} {j : Nat} (h : j < l.length) : (l.take (j + 1)).filter isAdd = (l.take j).filter isAdd ++ (if isAdd (l.getD j St.zero) then [l.getD j St.zero] else []) := by
  rw [List.take_succ_eq_append_getElem h, List.filter_append]
  have : l.getD j St.zero = l[j] := by simp [List.getD, h]
  rw [this]
  simp [List.filter_cons]
theorem filter_len (l : List St) (j : Nat) : ((l.take j).filter isAdd).length ≤ j := by
  have := List.length_filter_le isAdd (l.take j)
  have := List.length_take_le j l
  omega
theorem WdSt.keeps {K : Nat → Prop} {w0 w : World} {p d m : Nat} {ps : Nat → Nat} {W : Wd} (h : WdSt K w0 w p d m ps W) : Keeps K w0 w := by
  obtain ⟨_, _, _, _, _, _, h3⟩ := h
  exact h3

end Go.Proofs.Ytklicjbpjigfdab

/- DERIVED. What holds of the statement's world goes on holding when a number comes in: the room, the thinnings, the coins. -/
namespace Go.Proofs.Ytklicjbpjigfdab
open Go.RowKit
variable {K : Nat → Prop} {w0 : World}

/-- The sketches behind it. -/
theorem took_at (W : Wd) (i j : Nat) (x : Int) (wt : Nat) (L' : List Lvl) (u a : Nat) (hi : i < W.D.sks.length) :
    (W.took i x wt L' u a).D.sks.getD j Hd.none = if j = i then { sk := { k := (W.D.sks.getD i Hd.none).sk.k, lv := L', lo := addLo (W.D.sks.getD i Hd.none) x, hi := addHi (W.D.sks.getD i Hd.none) x }, sealed := (W.D.sks.getD i Hd.none).sealed, taken := (W.D.sks.getD i Hd.none).taken } else W.D.sks.getD j Hd.none := by
  show (W.D.sks.set i _).getD j Hd.none = _
  by_cases e : j = i
  · subst e
    rw [if_pos rfl]
    simp only [List.getD]
    rw [List.getElem?_set_self hi]
    rfl
  · rw [if_neg e]
    simp only [List.getD]
    rw [List.getElem?_set_ne (Ne.symm e)]

theorem winv_took {W : Wd} {i : Nat} {x : Int} {wt a : Nat} {cs : List Bool} {L' : List Lvl} (h : WInv W) (hi : i < 3) (hw1 : 1 ≤ wt) (hw2 : wt ≤ 268435456) (hf : wsum (W.D.sks.getD i Hd.none).sk.lv + wt ≤ 268435456) (ha : a ≤ 140737488355328)
    (hs : settle (W.D.sks.getD i Hd.none).sk.k cs 0 (addL (W.D.sks.getD i Hd.none) x wt) = some (L', cs.length)) (hcs : cs.length ≤ 29) : WInv (W.took i x wt L' cs.length a) := by
  refine ⟨?_, rfl, ha, h.coins, h.most, ?_, fun j hj => ?_, fun j hj => sealed_set (h.uns j hj) (h.uns i hi)⟩
  · show (W.D.sks.set i _).length = 3
    rw [List.length_set]; exact h.len
  · have hu := h.used
    show W.used + cs.length ≤ 29 * ((if 0 = i then (W.sd i).took x wt else W.sd 0).n + (if 1 = i then (W.sd i).took x wt else W.sd 1).n + (if 2 = i then (W.sd i).took x wt else W.sd 2).n)
    have ht : ((W.sd i).took x wt).n = (W.sd i).n + wt := rfl
    have : i = 0 ∨ i = 1 ∨ i = 2 := by omega
    rcases this with rfl | rfl | rfl
    · rw [if_pos rfl, if_neg (by omega), if_neg (by omega), ht]; omega
    · rw [if_neg (by omega), if_pos rfl, if_neg (by omega), ht]; omega
    · rw [if_neg (by omega), if_neg (by omega), if_pos rfl, ht]; omega
  · rw [took_at W i j x wt L' cs.length a (by rw [h.len]; exact hi)]
    show Came _ (if j = i then (W.sd i).took x wt else W.sd j)
    by_cases e : j = i
    · subst e
      rw [if_pos rfl, if_pos rfl]
      exact came_took (h.came j hj) hw1 hw2 hf hs
    · rw [if_neg e, if_neg e]
      exact h.came j hj

structure SInv (W : Wd) : Prop where
  inv : WInv W
  roomy : ∀ i, i < 3 → Roomy (W.D.sks.getD i Hd.none).sk.k (W.D.sks.getD i Hd.none).sk.lv
  tall : ∀ i, i < 3 → Tall (W.D.sks.getD i Hd.none).sk.lv
  times : tsum (W.D.sks.getD 0 Hd.none).sk.lv + tsum (W.D.sks.getD 1 Hd.none).sk.lv + tsum (W.D.sks.getD 2 Hd.none).sk.lv = W.used

theorem SInv.add {W : Wd} {p d i : Nat} {ps : Nat → Nat} {x : Int} {wt : Nat} {w' : World} (h : SInv W) (hi : i < 3) (hw1 : 1 ≤ wt) (hw2 : wt ≤ 268435456) (ha : AddPost K w0 p d 3 i ps x wt W w') : ∃ W', WdSt K w0 w' p d 3 ps W' ∧ SInv W' ∧ (wt = 1 → W'.used ≤ W.used + 1) := by
  rcases ha with ⟨_, hst⟩ | ⟨hf, cs, L', a, ha, hs, hcs, hst⟩
  · exact ⟨W, hst, h, fun _ => Nat.le_succ _⟩
  · have hil : i < W.D.sks.length := by rw [h.inv.len]; exact hi
    have hc := h.inv.came i hi
    have hat := fun j => took_at W i j x wt L' cs.length a hil
    have hlt : wt < 2 ^ 29 := Nat.lt_of_le_of_lt hw2 (by decide)
    have hro : Roomy (W.D.sks.getD i Hd.none).sk.k L' := (Roomy.with (h.roomy i hi)).settle hs
    have hta : Tall L' := by
      refine Tall.settle ?_ hs
      have e1 : wsum (addL (W.D.sks.getD i Hd.none) x wt) = wsum (W.D.sks.getD i Hd.none).sk.lv + wt := by unfold addL; rw [withFrom_wsum hlt (Nat.zero_le _)]; simp
      unfold Tall
      rw [e1]
      rcases with_tall (x := x) (f := 29) (w := wt) (h := 0) (L := (W.D.sks.getD i Hd.none).sk.lv) (Nat.zero_le _) with e | e
      · have e' : (addL (W.D.sks.getD i Hd.none) x wt).length = (W.D.sks.getD i Hd.none).sk.lv.length := e
        rw [e']
        rcases h.tall i hi with t | t
        · exact .inl t
        · right; omega
      · right
        have e' : 2 ^ ((addL (W.D.sks.getD i Hd.none) x wt).length - 1) ≤ 2 ^ 0 * wt := e
        omega
    have hts : tsum L' = tsum (W.D.sks.getD i Hd.none).sk.lv + cs.length := by
      have h1 := settle_tsum hs
      have h2 : tsum (addL (W.D.sks.getD i Hd.none) x wt) = tsum (W.D.sks.getD i Hd.none).sk.lv := withFrom_tsum
      omega
    refine ⟨_, hst, ⟨winv_took h.inv hi hw1 hw2 hf ha.1 hs hcs, fun j hj => ?_, fun j hj => ?_, ?_⟩, fun h1 => ?_⟩
    · rw [hat]
      by_cases e : j = i
      · rw [if_pos e]; exact hro
      · rw [if_neg e]; exact h.roomy j hj
    · rw [hat]
      by_cases e : j = i
      · rw [if_pos e]; exact hta
      · rw [if_neg e]; exact h.tall j hj
    · rw [hat, hat, hat]
      show _ = W.used + cs.length
      have ht := h.times
      have : i = 0 ∨ i = 1 ∨ i = 2 := by omega
      rcases this with rfl | rfl | rfl
      · rw [if_pos rfl, if_neg (by omega), if_neg (by omega)]
        show tsum L' + _ + _ = _
        omega
      · rw [if_neg (by omega), if_pos rfl, if_neg (by omega)]
        show _ + tsum L' + _ = _
        omega
      · rw [if_neg (by omega), if_neg (by omega), if_pos rfl]
        show _ + _ + tsum L' = _
        omega
    · show W.used + cs.length ≤ W.used + 1
      subst h1
      have e3 : (W.D.sks.getD i Hd.none).sk.lv.length ≤ (addL (W.D.sks.getD i Hd.none) x 1).length := withFrom_length_ge (Nat.zero_le _)
      have e5 : nsum (addL (W.D.sks.getD i Hd.none) x 1) ≤ nsum (W.D.sks.getD i Hd.none).sk.lv + 1 := withFrom_nw (Nat.zero_le _)
      have e6 := capSum_mono (k := (W.D.sks.getD i Hd.none).sk.k) e3
      have e7 := hc.inok.set
      have := settle_few (m := 1) (by omega) hs
      omega

theorem first_sinv (k : Int) (coins : ByteArray) (hc : coins.size ≤ 140737488355328) : SInv (Wd.first k coins 3) := by
  refine ⟨first_inv k coins hc, fun i hi => ?_, fun i hi => ?_, rfl⟩
  · have : i = 0 ∨ i = 1 ∨ i = 2 := by omega
    rcases this with rfl | rfl | rfl
    all_goals exact ⟨by simp [Lvl.none], trivial⟩
  · have : i = 0 ∨ i = 1 ∨ i = 2 := by omega
    rcases this with rfl | rfl | rfl
    all_goals exact .inl (Nat.le_refl _)

end Go.Proofs.Ytklicjbpjigfdab

/- DERIVED. The walk of step where a sketch comes into another; what goes on holding with every step. -/
namespace Go.Proofs.Ytklicjbpjigfdab
open Go.RowKit
attribute [local go_sem ↓] Go.wp_at_zero Go.wp_at_succ
variable {K : Nat → Prop} {w0 : World}

/-- The sum of the first m. -/
def sumTo : Nat → (Nat → Nat) → Nat
  | 0, _ => 0
  | m + 1, f => sumTo m f + f m
theorem sumTo_congr {f g : Nat → Nat} : ∀ {m : Nat}, (∀ j, j < m → f j = g j) → sumTo m f = sumTo m g
  | 0, _ => rfl
  | m + 1, h => by rw [sumTo, sumTo, sumTo_congr (fun j hj => h j (by omega)), h m (by omega)]
/-- One of them turns. -/
theorem sumTo_turn {f g : Nat → Nat} {i : Nat} : ∀ {m : Nat}, i < m → (∀ j, j ≠ i → f j = g j) → sumTo m f + g i = sumTo m g + f i
  | 0, h, _ => by omega
  | m + 1, h, hj => by
    rw [sumTo, sumTo]
    by_cases e : i = m
    · subst e
      have := sumTo_congr (m := i) (f := f) (g := g) (fun j hj' => hj j (by omega))
      omega
    · have := sumTo_turn (f := f) (g := g) (i := i) (m := m) (by omega) hj
      have := hj m (Ne.symm e)
      omega
theorem sumTo_le {f : Nat → Nat} {c : Nat} : ∀ {m : Nat}, (∀ j, j < m → f j ≤ c) → sumTo m f ≤ m * c
  | 0, _ => Nat.zero_le _
  | m + 1, h => by
    have h1 := sumTo_le (m := m) (fun j hj => h j (by omega))
    have h2 := h m (by omega)
    rw [sumTo, Nat.succ_mul]; omega

/-- What holds of the statement's world with m sketches all the way, whatever comes into whatever. -/
structure MInvM (m : Nat) (W : Wd) : Prop where
  len : W.D.sks.length = m
  tape : W.D.tape = []
  at_ : W.at_ ≤ 140737488355328
  coins : W.coins.size ≤ 140737488355328
  most : W.most = -1
  used : W.used + 256 * sumTo m (fun i => (W.D.sks.getD i Hd.none).sk.k) ≤ 256 * sumTo m (fun i => (W.sd i).n) + 256 * (64 * m)
  came : ∀ i, i < m → Came (W.D.sks.getD i Hd.none) (W.sd i)
  roomy : ∀ i, i < m → Roomy (W.D.sks.getD i Hd.none).sk.k (W.D.sks.getD i Hd.none).sk.lv
  tall : ∀ i, i < m → Tall (W.D.sks.getD i Hd.none).sk.lv
  near : ∀ i, i < m → ∀ q, Near q (W.D.sks.getD i Hd.none).sk.lv (wFilter (fun x => decide (x ≤ q)) (W.sd i).xs (W.sd i).ws)
  uns : ∀ i, i < m → (W.D.sks.getD i Hd.none).sealed = false
/-- With three. -/
abbrev MInv (W : Wd) : Prop := MInvM 3 W

theorem MInvM.small {m : Nat} {W : Wd} (h : MInvM m W) (hm : m ≤ 4) : W.used ≤ 1099511627776 := by
  have hs := sumTo_le (m := m) (f := fun i => (W.sd i).n) (c := 268435456) (fun j hj => by
    have h0 := (h.came j hj).inok
    have := h0.ok.cnt
    have := h0.n
    omega)
  have hu := h.used
  omega
theorem MInv.small {W : Wd} (h : MInv W) : W.used ≤ 1099511627776 := MInvM.small h (by omega)
theorem MInv.ok {W : Wd} (h : MInv W) : WdOk W := ⟨h.len, h.tape, h.at_, h.coins, h.most, MInvM.small h (by omega), fun i hi => (h.came i hi).inok, h.uns⟩

/-- A world in which one sketch and its side have turned. -/
theorem MInvM.turn {m : Nat} {W : Wd} {i u a : Nat} {hd : Hd} {s : Sd} (h : MInvM m W) (hi : i < m) (ha : a ≤ 140737488355328)
    (hu : u + 256 * hd.sk.k + 256 * (W.sd i).n ≤ 256 * s.n + 256 * (W.D.sks.getD i Hd.none).sk.k)
    (hsl : hd.sealed = false) (hc : Came hd s) (hr : Roomy hd.sk.k hd.sk.lv) (ht : Tall hd.sk.lv) (hn : ∀ q, Near q hd.sk.lv (wFilter (fun x => decide (x ≤ q)) s.xs s.ws)) :
    MInvM m { W with D := { W.D with tape := [], sks := W.D.sks.set i hd }, sd := fun j => if j = i then s else W.sd j, used := W.used + u, at_ := a } := by
  have hil : i < W.D.sks.length := by rw [h.len]; exact hi
  have hat : ∀ j, (W.D.sks.set i hd).getD j Hd.none = if j = i then hd else W.D.sks.getD j Hd.none := by
    intro j
    by_cases e : j = i
    · subst e
      rw [if_pos rfl]
      simp only [List.getD]
      rw [List.getElem?_set_self hil]
      rfl
    · rw [if_neg e]
      simp only [List.getD]
      rw [List.getElem?_set_ne (Ne.symm e)]
  refine ⟨?_, rfl, ha, h.coins, h.most, ?_, fun j hj => ?_, fun j hj => ?_, fun j hj => ?_, fun j hj => ?_, fun j hj => sealed_set (h.uns j hj) hsl⟩
  · show (W.D.sks.set i hd).length = m
    rw [List.length_set]; exact h.len
  · have h9 := h.used
    show W.used + u + 256 * sumTo m (fun j => ((W.D.sks.set i hd).getD j Hd.none).sk.k) ≤ 256 * sumTo m (fun j => (if j = i then s else W.sd j).n) + 256 * (64 * m)
    have e1 := sumTo_turn (f := fun j => ((W.D.sks.set i hd).getD j Hd.none).sk.k) (g := fun j => (W.D.sks.getD j Hd.none).sk.k) hi (fun j hj => by rw [hat, if_neg hj])
    have e2 := sumTo_turn (f := fun j => (if j = i then s else W.sd j).n) (g := fun j => (W.sd j).n) hi (fun j hj => by rw [if_neg hj])
    simp only [hat, if_true] at e1 e2
    simp only [hat]
    omega
  all_goals
    first
    | show Came ((W.D.sks.set i hd).getD j Hd.none) (if j = i then s else W.sd j)
    | show Roomy ((W.D.sks.set i hd).getD j Hd.none).sk.k ((W.D.sks.set i hd).getD j Hd.none).sk.lv
    | show Tall ((W.D.sks.set i hd).getD j Hd.none).sk.lv
    | show ∀ q, Near q ((W.D.sks.set i hd).getD j Hd.none).sk.lv (wFilter (fun x => decide (x ≤ q)) (if j = i then s else W.sd j).xs (if j = i then s else W.sd j).ws)
    rw [hat]
    by_cases e : j = i
    · simp only [if_pos e]; assumption
    · simp only [if_neg e]
      first
      | exact h.came j hj
      | exact h.roomy j hj
      | exact h.tall j hj
      | exact h.near j hj

theorem minv_took {m : Nat} {W : Wd} {i : Nat} {x : Int} {wt a : Nat} {cs : List Bool} {L' : List Lvl} (h : MInvM m W) (hi : i < m) (hw1 : 1 ≤ wt) (hw2 : wt ≤ 268435456) (hf : wsum (W.D.sks.getD i Hd.none).sk.lv + wt ≤ 268435456) (ha : a ≤ 140737488355328)
    (hs : settle (W.D.sks.getD i Hd.none).sk.k cs 0 (addL (W.D.sks.getD i Hd.none) x wt) = some (L', cs.length)) (hcs : cs.length ≤ 29) : MInvM m (W.took i x wt L' cs.length a) := by
  have hc := h.came i hi
  have hlt : wt < 2 ^ 29 := Nat.lt_of_le_of_lt hw2 (by decide)
  have hro : Roomy (W.D.sks.getD i Hd.none).sk.k L' := (Roomy.with (h.roomy i hi)).settle hs
  have hta : Tall L' := by
    refine Tall.settle ?_ hs
    have e1 : wsum (addL (W.D.sks.getD i Hd.none) x wt) = wsum (W.D.sks.getD i Hd.none).sk.lv + wt := by unfold addL; rw [withFrom_wsum hlt (Nat.zero_le _)]; simp
    unfold Tall
    rw [e1]
    rcases with_tall (x := x) (f := 29) (w := wt) (h := 0) (L := (W.D.sks.getD i Hd.none).sk.lv) (Nat.zero_le _) with e | e
    · have e' : (addL (W.D.sks.getD i Hd.none) x wt).length = (W.D.sks.getD i Hd.none).sk.lv.length := e
      rw [e']
      rcases h.tall i hi with t | t
      · exact .inl t
      · right; omega
    · right
      have e' : 2 ^ ((addL (W.D.sks.getD i Hd.none) x wt).length - 1) ≤ 2 ^ 0 * wt := e
      omega
  have hcame := came_took hc hw1 hw2 hf hs
  have hLw : LvOk (putXs (W.sd i) x) (addL (W.D.sks.getD i Hd.none) x wt) := LvOk.with (put_facts (x := x) (wt := wt) hc.len).2.2.1 (hc.lvok.mono (put_facts (x := x) (wt := wt) hc.len).2.2.2.1)
  refine h.turn (i := i) hi ha ?_ (h.uns i hi) hcame hro hta (fun q => ?_)
  · show cs.length + 256 * (W.D.sks.getD i Hd.none).sk.k + 256 * (W.sd i).n ≤ 256 * ((W.sd i).n + wt) + 256 * (W.D.sks.getD i Hd.none).sk.k
    omega
  · show Near q L' (wFilter (fun x => decide (x ≤ q)) (putXs (W.sd i) x) (putWs (W.sd i) x wt))
    refine Near.settle ?_ hLw hs
    rw [wFilter_put _ hc.len]
    have hn := h.near i hi q
    unfold Near addL at *
    rw [usum_with hlt (Nat.zero_le _), esum_with]
    simp only [Nat.pow_zero, Nat.one_mul, decide_eq_true_eq]
    split <;> omega

theorem MInv.add {W : Wd} {p d i : Nat} {ps : Nat → Nat} {x : Int} {wt : Nat} {w' : World} (h : MInv W) (hi : i < 3) (hw1 : 1 ≤ wt) (hw2 : wt ≤ 268435456) (ha : AddPost K w0 p d 3 i ps x wt W w') : ∃ W', WdSt K w0 w' p d 3 ps W' ∧ MInv W' := by
  rcases ha with ⟨_, hst⟩ | ⟨hf, cs, L', a, ha, hs, hcs, hst⟩
  · exact ⟨W, hst, h⟩
  · exact ⟨_, hst, minv_took h hi hw1 hw2 hf ha.1 hs hcs⟩

/-- A merge that changes neither count nor K takes no coin. -/
theorem merge_none {a b : Hd} {cs : List Bool} {L' : List Lvl} {u : Nat} (sa : nsum a.sk.lv ≤ capSum a.sk.k a.sk.lv.length) (hb : wsum b.sk.lv = 0) (hk : mgK a b = a.sk.k) (hs : settle (mgK a b) cs 0 (mgL a b) = some (L', u)) : u = 0 := by
  have e2 : (mgL a b).length = max a.sk.lv.length b.sk.lv.length := mergeL_length _ _
  have e5 : nsum (mgL a b) = nsum a.sk.lv + nsum b.sk.lv := mergeL_nsum _ _
  have hn := nsum_le b.sk.lv
  have hc := capSum_mono (k := a.sk.k) (Nat.le_max_left a.sk.lv.length b.sk.lv.length)
  have := settle_few (m := 0) (by rw [e2, e5, hk]; omega) hs
  omega

theorem minv_joined {m : Nat} {W : Wd} {i j a : Nat} {cs : List Bool} {L' : List Lvl} (h : MInvM m W) (hi : i < m) (hj : j < m) (hf : wsum (W.D.sks.getD i Hd.none).sk.lv + wsum (W.D.sks.getD j Hd.none).sk.lv ≤ 268435456) (ha : a ≤ 140737488355328)
    (hs : settle (mgK (W.D.sks.getD i Hd.none) (W.D.sks.getD j Hd.none)) cs 0 (mgL (W.D.sks.getD i Hd.none) (W.D.sks.getD j Hd.none)) = some (L', cs.length)) (hcs : cs.length ≤ 230) : MInvM m (W.joined i j L' cs.length a) := by
  have hci := h.came i hi
  have hcj := h.came j hj
  have hki : mgK (W.D.sks.getD i Hd.none) (W.D.sks.getD j Hd.none) ≤ (W.D.sks.getD i Hd.none).sk.k := by unfold mgK mergeK; split <;> omega
  have hkj : mgK (W.D.sks.getD i Hd.none) (W.D.sks.getD j Hd.none) ≤ (W.D.sks.getD j Hd.none).sk.k := by unfold mgK mergeK; split <;> omega
  have hcame := came_merged hci hcj hf hs
  have hro : Roomy (mgK (W.D.sks.getD i Hd.none) (W.D.sks.getD j Hd.none)) L' := (Roomy.merge ((h.roomy i hi).mono hki) ((h.roomy j hj).mono hkj)).settle hs
  have hta : Tall L' := Tall.settle (Tall.merge (h.tall i hi) (h.tall j hj)) hs
  obtain ⟨f1, f2, f3, f4, f5, f6, f7⟩ := putN_facts (s := W.sd i) hci.len hci.pos hcj.len hcj.pos (W.sd j).xs.length (Nat.le_refl _)
  have f4' : ∀ y ∈ (W.sd j).xs, y ∈ (putN (W.sd i) (W.sd j).xs (W.sd j).ws (W.sd j).xs.length).xs := by
    intro y hy
    obtain ⟨t, ht, rfl⟩ := List.mem_iff_getElem.1 hy
    have := f4 t ht
    simpa [List.getD, ht] using this
  have hLw : LvOk (putN (W.sd i) (W.sd j).xs (W.sd j).ws (W.sd j).xs.length).xs (mgL (W.D.sks.getD i Hd.none) (W.D.sks.getD j Hd.none)) := LvOk.merge (hci.lvok.mono f3) (hcj.lvok.mono f4')
  have hn : ((W.sd i).all (W.sd j)).n = (W.sd i).n + (W.sd j).n := by
    show (putN (W.sd i) (W.sd j).xs (W.sd j).ws (W.sd j).xs.length).n = _
    rw [putN_n _ _ _ _ (by rw [hcj.len]; exact Nat.le_refl _), hcj.len, List.take_length, hcj.sum]
  refine h.turn (i := i) hi ha ?_ (h.uns i hi) hcame hro hta (fun q => ?_)
  · show cs.length + 256 * mgK (W.D.sks.getD i Hd.none) (W.D.sks.getD j Hd.none) + 256 * (W.sd i).n ≤ 256 * ((W.sd i).all (W.sd j)).n + 256 * (W.D.sks.getD i Hd.none).sk.k
    rw [hn]
    by_cases h0 : (W.sd j).n = 0
    · by_cases hk : mgK (W.D.sks.getD i Hd.none) (W.D.sks.getD j Hd.none) = (W.D.sks.getD i Hd.none).sk.k
      · have := merge_none hci.inok.set (by rw [← hcj.inok.n]; exact h0) hk hs
        omega
      · omega
    · omega
  · show Near q L' (wFilter (fun x => decide (x ≤ q)) (putN (W.sd i) (W.sd j).xs (W.sd j).ws (W.sd j).xs.length).xs (putN (W.sd i) (W.sd j).xs (W.sd j).ws (W.sd j).xs.length).ws)
    refine Near.settle ?_ hLw hs
    rw [f7, List.take_length, hcj.len, List.take_length]
    have n1 := h.near i hi q
    have n2 := h.near j hj q
    have e1 := usum_merge q (W.D.sks.getD j Hd.none).sk.lv (W.D.sks.getD i Hd.none).sk.lv
    have e2 := esum_merge (W.D.sks.getD j Hd.none).sk.lv (W.D.sks.getD i Hd.none).sk.lv
    unfold Near mgL at *
    omega

theorem MInv.merge {W : Wd} {p d i j : Nat} {ps : Nat → Nat} {w' : World} (h : MInv W) (hi : i < 3) (hj : j < 3) (ha : MergePost K w0 p d 3 i j ps W w') : ∃ W', WdSt K w0 w' p d 3 ps W' ∧ MInv W' := by
  rcases ha with ⟨_, hst⟩ | ⟨hf, cs, L', a, ha, hs, hcs, hst⟩
  · exact ⟨W, hst, h⟩
  · exact ⟨_, hst, minv_joined h hi hj hf ha.1 hs hcs⟩

set_option maxHeartbeats 2000000 in
set_option maxRecDepth 100000 in
theorem stepm_any (p d : Nat) (A B C : Int) (ps : Nat → Nat) (W : Wd) (w : World) (h : WdSt K w0 w p d 3 ps W) (hok : MInv W) (hA : InRange A) (hB : InRange B) :
    Calls Try.prog 31 #[.pointer (some ⟨p, 0, none⟩), .agg #[.int .i64 1, .int .i64 A, .int .i64 B, .int .i64 C]] w fun e w' => e = .returned (.bool true) ∧ MergePost K w0 p d 3 (pickN A 3) (pickN B 3) ps W w' := by
  have hst := h.below ((Below.refl w.heap.size w).alloc (Nat.le_refl _) (.cells #[.int .i64 1, .int .i64 A, .int .i64 B, .int .i64 C] 39))
  have HP := hid (fun (w' : World) => pick_any A 3 w' hA.1 hA.2 (by omega) (by omega))
  have HP2 := hid (fun (w' : World) => pick_any B 3 w' hB.1 hB.2 (by omega) (by omega))
  have hpl := pickN_lt A (n := 3) (by omega)
  have hpl2 := pickN_lt B (n := 3) (by omega)
  have HAD := hid (fun (w' : World) (hb : WdSt K w0 w' p d 3 ps W) => wmerge_any p d (pickN A 3) (pickN B 3) ps W w' hb hpl hpl2 hok.len (hok.uns _ hpl) (hok.came _ hpl) (hok.came _ hpl2) hok.tape hok.at_ hok.coins hok.most (MInvM.small hok (by omega)))
  generalize pickN A 3 = a at *
  generalize pickN B 3 = b at *
  have HST := hid hst
  clear h hst hok
  go_enter Try.func31, Try.ntmps31
  go_wp2_with fail
  refine (HP.out _).mono ?_
  rintro e w' ⟨rfl, hw⟩
  obtain rfl := hw.symm
  clear HP hw
  go_wp2_with fail
  refine (HP2.out _).mono ?_
  rintro e w' ⟨rfl, hw⟩
  obtain rfl := hw.symm
  clear HP2 hw
  go_wp2_with fail
  refine (HAD.out _ HST.out).mono ?_
  rintro e w1 ⟨rfl, hpost⟩
  have HPO := hid hpost
  clear hpost
  go_wp2_with fail
  go_ret
  exact ⟨rfl, HPO.out⟩

/-- Any step. -/
theorem step_any' (p d : Nat) (kd A B C : Int) (ps : Nat → Nat) (W : Wd) (w : World) (h : WdSt K w0 w p d 3 ps W) (hok : MInv W) (hA : InRange A) (hB : InRange B) (hC : InRange C) :
    Calls Try.prog 31 #[.pointer (some ⟨p, 0, none⟩), .agg #[.int .i64 kd, .int .i64 A, .int .i64 B, .int .i64 C]] w fun e w' => e = .returned (.bool true) ∧ ∃ W', WdSt K w0 w' p d 3 ps W' ∧ MInv W' := by
  by_cases hkd : kd = 1
  · subst hkd
    refine (stepm_any p d A B C ps W w h hok hA hB).mono ?_
    rintro e w' ⟨rfl, hp⟩
    exact ⟨rfl, hok.merge (pickN_lt A (by omega)) (pickN_lt B (by omega)) hp⟩
  · refine (step_any p d kd A B C ps W w h hok.ok hkd hA hC).mono ?_
    rintro e w' ⟨rfl, hp⟩
    exact ⟨rfl, hok.add (pickN_lt A (by omega)) (weightN_bd C).1 (weightN_bd C).2 hp⟩

end Go.Proofs.Ytklicjbpjigfdab
