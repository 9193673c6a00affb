/- DERIVED. The walks of the desk's settle and Add. -/
import Derived.Test.YtklicjbpjigfdabGreatQ9
import Derived.Test.YtklicjbpjigfdabGreatQ3
import Derived.BigRegion
namespace Go.Proofs.YtklicjbpjigfdabGreat
open Go.RowKit
variable {F : Nat → Prop}

/-- What settle and Add leave: the error, and the desk. -/
def addAns (F : Nat → Prop) (N0 : Nat) (d i k : Nat) (lo hi : Int) (D : Dk) (e : Ending) (w w' : World) : Option (List Lvl × Nat) → Prop
  | Option.none => e = .returned (.int .i64 7) ∧ Below w.heap.size w w'
  | some (L, u) => e = .returned (.int .i64 0) ∧ ∃ F', DeskAt F' w' d { D with tape := D.tape.drop u, sks := D.sks.set i { sk := { k := k, lv := L, lo := lo, hi := hi }, sealed := (D.sks.getD i Hd.none).sealed, taken := (D.sks.getD i Hd.none).taken } } ∧ (∀ b, F' b → F b ∨ N0 ≤ b) ∧ Fr F w w'

set_option maxHeartbeats 1000000 in
set_option maxRecDepth 100000 in
theorem settle_any (N0 d i k g cap : Nat) (lo hi : Int) (D : Dk) (vs : List Value) (L : List Lvl) (w : World) (h : DeskAt F w d D) (hi' : i < D.sks.length) (hN : N0 ≤ w.heap.size) (hL : LvAt (fun b => F b ∨ N0 ≤ b) w g cap vs L) (hk : k ≤ 64) (hlen : L.length ≤ 29) (hws : wsum L ≤ 268435456) (htm : ∀ j, (L.getD j Lvl.none).times ≤ 549755813888) (htp : D.tape.length ≤ 1024) :
    Calls Tryz.prog 62 #[.pointer (some ⟨d, 0, none⟩), .int .i64 (i : Int), skVal k g L.length cap lo hi] w fun e w' => addAns F N0 d i k lo hi D e w w' (settle k D.tape 0 L) := by
  obtain ⟨vt, vk, rs, h⟩ := h
  have hdz := lt_of_blk' h.blk
  have hbA : Below w.heap.size w (w.alloc (skBlk k g L.length cap lo hi)) := (Below.refl w.heap.size w).alloc (Nat.le_refl _) _
  have hA := h.below hbA
  obtain ⟨ao, ct, rfl⟩ := h.vtForm
  obtain ⟨gk, ck, rfl, hgk, q0, q1, q2, q3, q4⟩ := h.cells5 hi'
  obtain ⟨a0, a1, a2, az⟩ := blk3 hA.blk
  have HC := hid (coins_any d _ _ _ _ a1)
  have HS := hid (settled_any k g cap lo hi vs L _ D.tape _ (hL.below hbA) hA.tp hk hlen hws htm htp (fun b hb => .inr (by simp at hb; omega)))
  have HA := hid hA
  have HBA := hid hbA
  clear h hA hbA q0 q1 q2 q3 q4 htm hL
  go_enter Tryz.func62, Tryz.ntmps62
  go_wp2_with (first | (go_at_call 85; refine HC.out.mono ?_; rintro e w' ⟨rfl, hw⟩; obtain rfl := hw.symm))
  refine HS.out.mono ?_
  rintro e w1 ⟨hans, hb1⟩
  have HB1 := hid hb1
  generalize hwA : w.alloc (skBlk k g L.length cap lo hi) = wA at *
  have hzA : w.heap.size + 1 = wA.heap.size := by rw [← hwA]; simp
  have HZA := hid hzA
  clear hwA hzA
  cases hset : settle k D.tape 0 L with
  | none =>
    rw [hset] at hans
    have he : e = .returned (.tuple #[.agg #[.int .i64 0, .slice none 0 0, .int .i64 0, .int .i64 0], .int .i64 0, .bool false]) := hans
    subst he
    have HSET := hid hset
    clear hans hset hb1
    go_wp2_with fail
    go_ret
    rw [HSET.out]
    have hb2 : Below w.heap.size w w1 := HBA.out.trans (HB1.out.mono HBA.out.size)
    exact ⟨rfl, hb2.alloc hb2.size _⟩
  | some p =>
    obtain ⟨L', u⟩ := p
    rw [hset] at hans
    obtain ⟨g', cap', vs', he, hg', hL'⟩ := hans
    subst he
    have HL' := hid hL'
    have HSET := hid hset
    have hD1 := HA.out.below hb1
    obtain ⟨gk1, ck1, ek, hgk1, p0, p1, p2, p3, p4⟩ := hD1.cells5 hi'
    cases ek
    obtain ⟨r0, r1, r2, rz⟩ := blk3 hD1.blk
    have HD1 := hid hD1
    have hfr : ∀ o, w1.frozen? ⟨gk, o, none⟩ = false := by
      intro o
      rcases hD1.row.2 with ⟨e, _⟩ | ⟨g', cap', cur, e, _, hh, _⟩
      · cases e
      · cases e; simp [World.frozen?, hh]
    have hne1 : d < w1.heap.size := lt_of_blk' hD1.blk
    have hs1 : (0 : Int) ≤ (i : Int) := by omega
    have hs2 : (i : Int) < (D.sks.length : Int) := by omega
    clear hset hb1 hL' hD1 a0 a1 a2 az
    go_wp2_with fail
    go_region
    go_wp2_with fail
    have hu := settle_used HSET.out
    have hG : ∀ b, F b → (F b ∨ N0 ≤ b) ∧ b < w1.heap.size := fun b hb => ⟨.inl hb, HD1.out.flt b hb⟩
    have hD2 := DeskIn.setSk (G := fun b => (F b ∨ N0 ≤ b) ∧ b < w1.heap.size) (r := ⟨g', cap', vs', (rs.getD i Ref.none).tk⟩) (sk := ⟨k, L', lo, hi⟩) rfl HD1.out hi' hG (fun b hb => hb.2) (HL'.out.mono (fun b hb hl => ⟨hb, hl⟩)) ⟨.inr (by have := HZA.out; show N0 ≤ g'; omega), HL'.out.lt⟩
    have hD3 := hD2.below ((Below.refl _ _).alloc (Nat.le_refl _) (skBlk k g' L'.length cap' lo hi))
    refine (use_any d u _ _ _ D.tape _ (by exact hD3.blk) (by exact hD3.tp) (by omega) (by omega)).mono ?_
    rintro e w5 ⟨rfl, vt', k1, k2, k3, k4⟩
    have hfin := hD3.retape (t' := D.tape.drop u) k1 k2 (fun b hb => by
      rcases k3 with e | e
      · rw [e] at hb; exact .inl hb
      · exact .inr (by have := e b hb; simpa using this)) ((fr_undrew k4).mono (fun x _ e => .inl e))
    have hF : Fr F w w5 := by
      have f1 : Fr F w w1 := Fr.below (HBA.out.trans (HB1.out.mono HBA.out.size))
      have hgF : F gk := HD1.out.frow gk rfl
      have f2 := ((((f1.set (a := ⟨gk, i * 6, none⟩) (fun _ => hgF) (.int .i64 (k : Int))).set (a := ⟨gk, i * 6 + 1, none⟩) (fun _ => hgF) (.slice (some ⟨g', 0, none⟩) L'.length cap')).set (a := ⟨gk, i * 6 + 2, none⟩) (fun _ => hgF) (.int .i64 lo)).set (a := ⟨gk, i * 6 + 3, none⟩) (fun _ => hgF) (.int .i64 hi)).alloc (skBlk k g' L'.length cap' lo hi)
      exact f2.trans (fr_undrew k4) (fun x _ e => by subst e; exact HD1.out.fd)
    have HF := hid hF
    have HFIN := hid hfin
    clear hfin hF k1 k2 k3 k4 hD2 hD3 hG
    go_wp2_with fail
    go_ret
    rw [HSET.out]
    refine ⟨rfl, _, ⟨_, _, _, HFIN.out⟩, fun b hb => ?_, HF.out⟩
    rcases hb.1 with h | h
    · exact h.1
    · have h2 : w1.heap.size ≤ b := by simp only [World.size_alloc, setCell_size] at h; omega
      have := HB1.out.size
      have := HZA.out
      exact .inr (by omega)

/-- The sketch behind an Add that is let in, ahead of settling. -/
def addL (h : Hd) (x : Int) (wt : Nat) : List Lvl := withFrom x 29 wt 0 h.sk.lv
def addLo (h : Hd) (x : Int) : Int := widenLo (wsum h.sk.lv) h.sk.lo x
def addHi (h : Hd) (x : Int) : Int := widenHi (wsum h.sk.lv) h.sk.hi x

set_option maxHeartbeats 1000000 in
set_option maxRecDepth 100000 in
theorem add_any (d i wt : Nat) (x : Int) (D : Dk) (w : World) (h : DeskAt F w d D) (hi : i < D.sks.length) (hok : (D.sks.getD i Hd.none).Ok) (hun : (D.sks.getD i Hd.none).sealed = false) (hw1 : 1 ≤ wt) (hw2 : wt ≤ 268435456) (htp : D.tape.length ≤ 1024) :
    Calls Tryz.prog 29 #[.pointer (some ⟨d, 0, none⟩), .int .i64 (i : Int), .int .i64 x, .int .i64 (wt : Int)] w fun e w' =>
      if wsum (D.sks.getD i Hd.none).sk.lv + wt ≤ 268435456 then addAns F w.heap.size d i (D.sks.getD i Hd.none).sk.k (addLo (D.sks.getD i Hd.none) x) (addHi (D.sks.getD i Hd.none) x) D e w w' (settle (D.sks.getD i Hd.none).sk.k D.tape 0 (addL (D.sks.getD i Hd.none) x wt))
      else e = .returned (.int .i64 6) ∧ Below w.heap.size w w' := by
  have hD := h
  obtain ⟨vt, vk, rs, h⟩ := h
  have hdz := lt_of_blk' h.blk
  obtain ⟨g, c, rfl, hg, q0, q1, q2, q3, q4⟩ := h.cells5 hi
  obtain ⟨_, _, c2, _⟩ := blk3 h.blk
  have HH := hid (has_any d (i : Int) _ _ _ _ c2)
  rw [hasB_nat hi] at HH
  rw [hun] at q4
  have HOK := hid hok
  have hLv := hid (h.lv i hi)
  have HD := hid hD
  have hcnt := hok.cnt
  have HDD := hid (show D.sks.getD i Hd.none = D.sks.getD i Hd.none from rfl)
  generalize hde : D.sks.getD i Hd.none = de at *
  have HDE := hid hde
  generalize rs.getD i Ref.none = r at *
  clear h hok hD hde hun HDD
  go_enter Tryz.func29, Tryz.ntmps29
  go_wp2_with (first | (go_at_call 59; refine HH.out.mono ?_; rintro e w' ⟨rfl, hw⟩; obtain rfl := hw.symm))
  have hbA : Below w.heap.size w (w.alloc (skBlk de.sk.k r.g de.sk.lv.length r.cap de.sk.lo de.sk.hi)) := (Below.refl w.heap.size w).alloc (Nat.le_refl _) _
  refine (count_any de.sk.k r.g r.cap de.sk.lo de.sk.hi r.vs de.sk.lv _ (hLv.out.below hbA) (by have := HOK.out.len; omega) (by omega)).mono ?_
  rintro e w1 ⟨rfl, hb1⟩
  have hk := below_new hb1 (by simp)
  obtain ⟨e0, e1, e2, e3, ez⟩ := blk4 hk
  have HB1 : Hid (Below w.heap.size w w1) := hbA.trans (hb1.mono hbA.size)
  clear hb1 hbA hk
  by_cases hfull : wsum de.sk.lv + wt ≤ 268435456
  · go_wp2_with fail
    refine (with_any (F := fun b => F b ∨ w.heap.size ≤ b) de.sk.k r.g r.cap wt de.sk.lo de.sk.hi x r.vs de.sk.lv w1 ((hLv.out.below HB1.out).mono (fun b hb _ => .inl hb)) HOK.out.len (by omega) hw2 (fun b hb => .inr (by have := HB1.out.size; omega))).mono ?_
    rintro e w2 ⟨g2, cap2, vs2, rfl, hg2, hL2, hb2⟩
    have HB2 : Hid (Below w.heap.size w w2) := HB1.out.trans (hb2.mono HB1.out.size)
    have HL2 := hid hL2
    have hl9 : (withFrom x 29 wt 0 de.sk.lv).length ≤ 29 := withFrom_length (Nat.lt_of_le_of_lt hw2 (by decide)) (Nat.zero_le _) HOK.out.len (by omega)
    have hw9 : wsum (withFrom x 29 wt 0 de.sk.lv) ≤ 268435456 := by rw [withFrom_wsum (Nat.lt_of_le_of_lt hw2 (by decide)) (Nat.zero_le _)]; simp; omega
    have ht9 : Hid (∀ j, ((withFrom x 29 wt 0 de.sk.lv).getD j Lvl.none).times ≤ 549755813888) := fun j => by rw [withFrom_times]; exact HOK.out.tms j
    have HLE : Hid (addL de x wt = withFrom x 29 wt 0 de.sk.lv) := rfl
    have HLOE : Hid (addLo de x = widenLo (wsum de.sk.lv) de.sk.lo x) := rfl
    have HHIE : Hid (addHi de x = widenHi (wsum de.sk.lv) de.sk.hi x) := rfl
    generalize withFrom x 29 wt 0 de.sk.lv = L9 at *
    generalize widenLo (wsum de.sk.lv) de.sk.lo x = lo9 at *
    generalize widenHi (wsum de.sk.lv) de.sk.hi x = hi9 at *
    clear hb2 hL2 e0 e1 e2 e3 ez
    go_wp2_with fail
    have hbC : Below w2.heap.size w2 (w2.alloc (skBlk de.sk.k g2 L9.length cap2 lo9 hi9)) := (Below.refl _ _).alloc (Nat.le_refl _) _
    refine (settle_any (F := F) w.heap.size d i de.sk.k g2 cap2 lo9 hi9 D vs2 L9 _ ((HD.out.below HB2.out).below hbC) hi (by have := HB2.out.size; simp; omega) (HL2.out.below hbC) HOK.out.k2 hl9 hw9 ht9.out htp).mono ?_
    intro e w3 hans
    have hbw : Below w.heap.size w (w2.alloc (skBlk de.sk.k g2 L9.length cap2 lo9 hi9)) := HB2.out.trans (hbC.mono HB2.out.size)
    have HBW := hid hbw
    clear hbw hbC
    cases hset : settle de.sk.k D.tape 0 L9 with
    | none =>
      rw [hset] at hans
      obtain ⟨rfl, hb3⟩ := hans
      have HSET := hid hset
      have HB3 := hid hb3
      clear hset hb3
      go_wp2_with fail
      go_ret
      rw [HLE.out, HLOE.out, HHIE.out, HSET.out]
      exact ⟨rfl, HBW.out.trans (HB3.out.mono HBW.out.size)⟩
    | some p =>
      obtain ⟨L', u⟩ := p
      rw [hset] at hans
      obtain ⟨rfl, F', a1, a2, a3⟩ := hans
      have HSET := hid hset
      have A1 := hid a1
      have A2 := hid a2
      have A3 := hid a3
      clear hset a1 a2 a3
      go_wp2_with fail
      go_ret
      rw [HLE.out, HLOE.out, HHIE.out, HSET.out]
      exact ⟨rfl, F', A1.out, A2.out, (Fr.below HBW.out).trans A3.out (fun _ _ h => h)⟩
  · go_wp2_with fail
    go_ret
    exact ⟨rfl, HB1.out⟩

end Go.Proofs.YtklicjbpjigfdabGreat
