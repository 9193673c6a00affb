/- DERIVED. The walk of Take: a report comes in. -/
import Derived.Test.YtklicjbpjigfdabGreatTakeI
import Derived.Deep.RegionLaw
import Derived.Deep.DrawnRows
import Derived.Deep.RegionHeld3
namespace Go.Proofs.YtklicjbpjigfdabGreat
open Go.RowKit
attribute [local go_sem ↓] Go.wp_at_zero Go.wp_at_succ
variable {F : Nat → Prop}

/-- The sketch behind a report that came in. -/
def Hd.reported (de df : Hd) (L : List Lvl) (a b : Int) : Hd := { sk := { k := mgK de df, lv := L, lo := mgLo de df, hi := mgHi de df }, sealed := de.sealed, taken := de.taken ++ [(a.toNat, b.toNat)] }
/-- What Take leaves where the text is a sketch's and there is room. -/
def takeAns (F : Nat → Prop) (d i : Nat) (D : Dk) (df : Hd) (a b : Int) (e : Ending) (w w' : World) : Option (List Lvl × Nat) → Prop
  | Option.none => e = .returned (.int .i64 7) ∧ Below w.heap.size w w'
  | some (L, u) => e = .returned (.int .i64 0) ∧ DeskStep F w w' d { D with tape := D.tape.drop u, sks := D.sks.set i ((D.sks.getD i Hd.none).reported df L a b) }

theorem rep_new {w : World} {H : Nat} (hH : w.heap.size = H) (a b : Value) (e : TypeId) : ∀ j u, [a, b][j]? = some u → (w.alloc (.cells #[a, b] e)).cell? ((⟨H, 0, none⟩ : Addr).add j) = some u := by
  subst hH
  intro j u hu
  match j, hu with
  | 0, hu => simp at hu; subst hu; simp [Addr.add]
  | 1, hu => simp at hu; subst hu; simp [Addr.add]
theorem two_cell (a b : Int) : ∀ u ∈ [Value.int .i64 a, Value.int .i64 b], u.oneCell' = true := by
  intro u hu
  simp at hu
  rcases hu with rfl | rfl <;> rfl
theorem DeskStep.comp {F' : Nat → Prop} {w w1 w2 : World} {d : Nat} {D2 : Dk} (h2 : ∀ b, F' b → F b ∨ w.heap.size ≤ b) (h3 : Fr F w w1) (k : DeskStep F' w1 w2 d D2) : DeskStep F w w2 d D2 := by
  obtain ⟨F2, k1, k2, k3⟩ := k
  refine ⟨F2, k1, fun b hb => ?_, h3.trans k3 (fun x hx hF => ?_)⟩
  · rcases k2 b hb with h | h
    · exact h2 b h
    · exact .inr (Nat.le_trans h3.size h)
  · rcases h2 x hF with h | h
    · exact h
    · omega
theorem cell_of_blk {w w' : World} {g o : Nat} (h : w'.heap[g]? = w.heap[g]?) : w'.cell? ⟨g, o, none⟩ = w.cell? ⟨g, o, none⟩ := by simp [World.cell?, h]
theorem frozen_of_blk {w w' : World} {g : Nat} (h : w'.heap[g]? = w.heap[g]?) (k : ∀ o, w.frozen? ⟨g, o, none⟩ = false) : ∀ o, w'.frozen? ⟨g, o, none⟩ = false := fun o => by
  have := k o
  simp only [World.frozen?, h] at this ⊢
  exact this
theorem set_set_hd {l : List Hd} {i : Nat} {x y : Hd} : (l.set i x).set i y = l.set i y := by simp

set_option maxHeartbeats 2000000 in
set_option maxRecDepth 100000 in
theorem dtake_in (d i : Nat) (D : Dk) (a b : Int) (t : ByteArray) (w : World) (h : DeskAt F w d D) (hi : i < D.sks.length) (hs : (D.sks.getD i Hd.none).sealed = false) (ha1 : 0 ≤ a) (ha2 : a ≤ 255) (hb1 : 0 ≤ b) (hl : (D.sks.getD i Hd.none).taken.length ≤ 1099511627776) (htk : tookB (D.sks.getD i Hd.none).taken a b = false) (ht : t.size ≤ 140737488355328) (hit : isText (bytesOf t) = true) (hroom : (D.sks.getD i Hd.none).taken.length < 64) (hok : (D.sks.getD i Hd.none).Ok) (hok2 : Hd.Ok ⟨toldS (bytesOf t), false, []⟩) (hts : tsum (D.sks.getD i Hd.none).sk.lv + tsum (toldS (bytesOf t)).lv ≤ 549755813888) (htp : D.tape.length ≤ 1024) :
    Calls Tryz.prog 35 #[.pointer (some ⟨d, 0, none⟩), .int .i64 (i : Int), .int .i64 a, .int .i64 b, .string t] w fun e w' => if wsum (D.sks.getD i Hd.none).sk.lv + wsum (toldS (bytesOf t)).lv ≤ 268435456 then takeAns F d i D ⟨toldS (bytesOf t), false, []⟩ a b e w w' (settle (mgK (D.sks.getD i Hd.none) ⟨toldS (bytesOf t), false, []⟩) D.tape 0 (mgL (D.sks.getD i Hd.none) ⟨toldS (bytesOf t), false, []⟩)) else e = .returned (.int .i64 6) ∧ Below w.heap.size w w' := by
  have hbA : Below w.heap.size w (w.alloc (.cells #[.int .i64 a, .int .i64 b] 129)) := (Below.refl w.heap.size w).alloc (Nat.le_refl _) _
  have hD := h
  obtain ⟨vt, vk, rs, h⟩ := h
  have hdz := lt_of_blk' h.blk
  obtain ⟨g, c, ao, ct, rfl, hg, et, q0, q1, q2, q3, q4, q5, qf⟩ := h.cells6 hi
  obtain ⟨_, _, c2, _⟩ := blk3 h.blk
  have HH := hid (has_any d (i : Int) _ _ _ _ c2)
  rw [hasB_nat hi] at HH
  rw [hs] at q4
  have HTK := hid (fun (w' : World) (hb : Below w.heap.size w w') => took_any (D.sks.getD i Hd.none).sk.k (rs.getD i Ref.none).g (D.sks.getD i Hd.none).sk.lv.length (rs.getD i Ref.none).cap (D.sks.getD i Hd.none).sk.lo (D.sks.getD i Hd.none).sk.hi false (rs.getD i Ref.none).tk (D.sks.getD i Hd.none).taken a b w' ((h.below hb).tk i hi) hl)
  rw [et, htk] at HTK
  have hs1 : (0 : Int) ≤ (i : Int) := by omega
  have hs2 : (i : Int) < (D.sks.length : Int) := by omega
  have HBA := hid hbA
  have HR := hid (fun (w' : World) (hz : w.heap.size ≤ w'.heap.size) => read_any (F := fun b => F b ∨ w.heap.size ≤ b) t w' ht (fun _ h => .inr (Nat.le_trans hz h)))
  have HI := hid hit
  have HD := hid hD
  have hflt : ∀ x, F x → x < w.heap.size := h.flt
  have HFL := hid hflt
  have HOK := hid hok
  have HOK2 := hid hok2
  have HTS := hid hts
  generalize toldS (bytesOf t) = s at *
  generalize hdf : (⟨s, false, []⟩ : Hd) = df at *
  have HS : Hid (s = df.sk) := by rw [← hdf]; rfl
  generalize hde : D.sks.getD i Hd.none = de at *
  have HDE := hid hde
  generalize hr : rs.getD i Ref.none = r at *
  clear h hbA htk hs et hD hit hflt hok hok2 hts hdf hde hr
  go_enter Tryz.func35, Tryz.ntmps35
  go_wp2_with (go_at_call 59; refine HH.out.mono ?_; rintro e w' ⟨rfl, hw⟩; obtain rfl := hw.symm)
  have HNB := hid (heap_alloc_new w (.cells #[.int .i64 a, .int .i64 b] 129 (0, 0)))
  obtain ⟨z0, z1, zz⟩ := blk2 (heap_alloc_new w (.cells #[.int .i64 a, .int .i64 b] 129 (0, 0)))
  have hgA : g < (w.alloc (.cells #[.int .i64 a, .int .i64 b] 129)).heap.size := by simp; omega
  have hdA : d < (w.alloc (.cells #[.int .i64 a, .int .i64 b] 129)).heap.size := by simp; omega
  have hwA : w.heap.size < (w.alloc (.cells #[.int .i64 a, .int .i64 b] 129)).heap.size := by simp
  have r0 := (HBA.out.cell (p := ⟨g, i * 6, none⟩) hg).trans q0
  have r1 := (HBA.out.cell (p := ⟨g, i * 6 + 1, none⟩) hg).trans q1
  have r2 := (HBA.out.cell (p := ⟨g, i * 6 + 2, none⟩) hg).trans q2
  have r3 := (HBA.out.cell (p := ⟨g, i * 6 + 3, none⟩) hg).trans q3
  have r4 := (HBA.out.cell (p := ⟨g, i * 6 + 4, none⟩) hg).trans q4
  have r5 := (HBA.out.cell (p := ⟨g, i * 6 + 5, none⟩) hg).trans q5
  have rd := (HBA.out.cell (p := ⟨d, 2, none⟩) hdz).trans c2
  generalize hwB : w.alloc (.cells #[.int .i64 a, .int .i64 b] 129) = wB at *
  have HWB := hid hwB
  clear hwB
  go_region_held3 (fun w' => w'.cell? ⟨d, 2, none⟩ = some (.slice (some ⟨g, 0, none⟩) D.sks.length c) ∧ w'.cell? ⟨g, i * 6, none⟩ = some (.int .i64 (de.sk.k : Int)) ∧ w'.cell? ⟨g, i * 6 + 1, none⟩ = some (.slice (some ⟨r.g, 0, none⟩) de.sk.lv.length r.cap) ∧ w'.cell? ⟨g, i * 6 + 2, none⟩ = some (.int .i64 de.sk.lo) ∧ w'.cell? ⟨g, i * 6 + 3, none⟩ = some (.int .i64 de.sk.hi) ∧ w'.cell? ⟨g, i * 6 + 4, none⟩ = some (.bool false) ∧ w'.cell? ⟨g, i * 6 + 5, none⟩ = some (.slice ao de.taken.length ct) ∧ w'.cell? ⟨w.heap.size, 0, none⟩ = some (.int .i64 a) ∧ w'.cell? ⟨w.heap.size, 1, none⟩ = some (.int .i64 b)) (first | go_keep | exact ⟨(hb1'.cell (by exact hdA)).trans rd, (hb1'.cell (by exact hgA)).trans r0, (hb1'.cell (by exact hgA)).trans r1, (hb1'.cell (by exact hgA)).trans r2, (hb1'.cell (by exact hgA)).trans r3, (hb1'.cell (by exact hgA)).trans r4, (hb1'.cell (by exact hgA)).trans r5, (hb1'.cell (by exact hwA)).trans z0, (hb1'.cell (by exact hwA)).trans z1⟩) (first | (go_at_call 66; refine (HTK.out _ (bdrewT HBA.out)).mono ?_; rintro e w1 ⟨rfl, hb1'⟩))
  have hB1 := HBA.out.trans ((undrew hb1').mono HBA.out.size)
  have hnm := ((undrew hb1').block w.heap.size hwA).trans HNB.out
  have HB1 := hid hB1
  have HNM := hid hnm
  clear hB1 hnm hb1' r0 r1 r2 r3 r4 r5 rd z0 z1 zz hgA hdA hwA
  all_goals
    go_wp2_with fail
    refine (HR.out _ HB1.out.size).mono ?_
    rintro e w2 ⟨hb, _, h1⟩
    obtain ⟨g1, vs1, rfl, hg1, hL1⟩ := h1 HI.out
    have hB2 := HB1.out.trans (hb.mono HB1.out.size)
    have hal : Below w2.heap.size w2 (w2.alloc (skBlk s.k g1 s.lv.length s.lv.length s.lo s.hi)) := (Below.refl _ _).alloc (Nat.le_refl _) _
    have hB3 := hB2.trans (hal.mono hB2.size)
    have HM := hid (mergeIn_any (F := F) w.heap.size d i g1 s.lv.length df vs1 D _ (HD.out.below hB3) hB3.size hi (by rw [← HS.out]; exact hL1.below hal) (by rw [HDE.out]; exact HOK.out) HOK2.out (by rw [HDE.out, ← HS.out]; exact HTS.out) htp)
    rw [HDE.out, ← HS.out] at HM
    have HB2 := hid hB2
    have HB3 := hid hB3
    have p2 := (hB2.cell (p := ⟨d, 2, none⟩) hdz).trans c2
    have p5 := (hB2.cell (p := ⟨g, i * 6 + 5, none⟩) hg).trans q5
    have hd2 : d < w2.heap.size := Nat.lt_of_lt_of_le hdz hB2.size
    have hg2 : g < w2.heap.size := Nat.lt_of_lt_of_le hg hB2.size
    have hnm3 : (w2.alloc (skBlk s.k g1 s.lv.length s.lv.length s.lo s.hi)).heap[w.heap.size]? = some (.cells #[.int .i64 a, .int .i64 b] 129 (0, 0)) := (hal.block _ (Nat.lt_of_lt_of_le (lt_of_blk' HNM.out) hb.size)).trans ((hb.block _ (lt_of_blk' HNM.out)).trans HNM.out)
    have HNM3 := hid hnm3
    clear h1 hb HR hL1 hB2 hal hB3 hnm3
    go_wp2_with fail
    refine HM.out.mono ?_
    intro e w4 hans
    by_cases hf : wsum de.sk.lv + wsum s.lv ≤ 268435456
    · rw [if_pos hf] at hans
      cases hset : settle (mgK de df) D.tape 0 (mgL de df) with
      | none =>
        rw [hset] at hans
        obtain ⟨rfl, hb4⟩ := hans
        have HSET := hid hset
        have HB4 := hid (HB3.out.trans (hb4.mono HB3.out.size))
        clear hset hb4
        go_wp2_with fail
        go_ret
        rw [HSET.out]
        exact ⟨rfl, HB4.out⟩
      | some p =>
        obtain ⟨L', u⟩ := p
        rw [hset] at hans
        obtain ⟨rfl, F', a1, a2, a3⟩ := hans
        have HSET := hid hset
        have hatI : (D.sks.set i { sk := { k := mgK de df, lv := L', lo := mgLo de df, hi := mgHi de df }, sealed := (D.sks.getD i Hd.none).sealed, taken := (D.sks.getD i Hd.none).taken }).getD i Hd.none = { sk := { k := mgK de df, lv := L', lo := mgLo de df, hi := mgHi de df }, sealed := (D.sks.getD i Hd.none).sealed, taken := (D.sks.getD i Hd.none).taken } := by simp [List.getD, hi]
        rw [HDE.out] at a1 hatI
        obtain ⟨vt4, vk4, rs4, h4⟩ := a1
        have hi4 : i < ({ D with tape := D.tape.drop u, sks := D.sks.set i { sk := { k := mgK de df, lv := L', lo := mgLo de df, hi := mgHi de df }, sealed := de.sealed, taken := de.taken } } : Dk).sks.length := by simpa using hi
        obtain ⟨g4, c4, ao4, ct4, e4, hg4, et4, _, _, _, _, _, k5, kf⟩ := h4.cells6 hi4
        rw [show ({ D with tape := D.tape.drop u, sks := D.sks.set i { sk := { k := mgK de df, lv := L', lo := mgLo de df, hi := mgHi de df }, sealed := de.sealed, taken := de.taken } } : Dk).sks.length = D.sks.length by simp] at e4
        subst e4
        have hrow4 := h4.tk i hi4
        rw [hatI] at k5 et4
        rw [et4] at hrow4
        have hrow4' : w4.ownsRow 0 129 2 (.slice ao4 de.taken.length ct4) de.taken.length (tkCells de.taken) := by
          have e := hrow4
          simp only [hatI] at e
          exact e
        have hblk4 := h4.blk
        obtain ⟨_, _, m2, mz⟩ := blk3 hblk4
        have hnm4 : w4.heap[w.heap.size]? = some (.cells #[.int .i64 a, .int .i64 b] 129 (0, 0)) := (a3.block _ (lt_of_blk' HNM3.out) (fun hx => by have := HFL.out _ hx; omega)).trans HNM3.out
        obtain ⟨n0, n1, nz⟩ := blk2 hnm4
        have hnz4 := lt_of_blk' hnm4
        have hdz4 := lt_of_blk' hblk4
        obtain ⟨i0, hi0, hz0, hz1, hz2⟩ := info_parts Tryz.infoReport
        have H4 := hid h4
        have A2 := hid a2
        have A3 := hid ((Fr.below HB3.out).trans a3 (fun _ _ h => h))
        have HROW := hid hrow4'
        have HET := hid et4
        have HAT := hid hatI
        have HNED : Hid (Value.ownBlock (.slice ao4 de.taken.length ct4) ≠ some d) := by
          intro e
          obtain ⟨cc, hc⟩ := ownsRow_blk hrow4' e
          rw [hblk4] at hc; cases hc
        have HNEG : Hid (Value.ownBlock (.slice ao4 de.taken.length ct4) ≠ some g4) := by
          intro e
          obtain ⟨cc, hc⟩ := ownsRow_blk hrow4' e
          obtain ⟨cc', hc'⟩ := ownsRow_blk h4.row (g := g4) rfl
          rw [hc'] at hc; cases hc
        have HBLK := hid hblk4
        clear hset h4 a2 a3 hatI hrow4 hrow4' et4 hblk4 p2 p5
        obtain ⟨ck, hck⟩ := ownsRow_blk H4.out.row (g := g4) rfl
        have hned4 : d ≠ g4 := by
          intro e
          have := HBLK.out
          rw [e, hck] at this
          cases this
        have HREP : Hid (∀ (w5 : World) (g5 cap5 : Nat), w5.ownsRow 0 129 2 (.slice (some ⟨g5, 0, none⟩) (de.taken.length + 1) cap5) (de.taken.length + 1) (tkCells de.taken ++ [.int .i64 a, .int .i64 b]) → (w4.alloc (.cells #[.int .i64 a, .int .i64 b] 129)).grownBy w5 (Value.ownBlock (.slice ao4 de.taken.length ct4)) → (Value.ownBlock (.slice ao4 de.taken.length ct4) = some g5 ∨ w4.heap.size ≤ g5) →
            DeskStep F w (w5.setCell ⟨g4, i * 6 + 5, none⟩ (.slice (some ⟨g5, 0, none⟩) (de.taken.length + 1) cap5)) d { D with tape := D.tape.drop u, sks := D.sks.set i (de.reported df L' a b) }) := by
          intro w5 g5 cap5 hown hgrow hat
          have hlen4 : (D.sks.set i { sk := { k := mgK de df, lv := L', lo := mgLo de df, hi := mgHi de df }, sealed := de.sealed, taken := de.taken }).length = D.sks.length := by simp
          have h4 := H4.out
          rw [← hlen4] at h4
          have hst := DeskIn.report (p := (a.toNat, b.toNat)) (m := de.taken.length) h4 hi4 ((Below.refl w4.heap.size w4).alloc (Nat.le_refl _) (.cells #[.int .i64 a, .int .i64 b] 129)) (by show List.length (Hd.taken (List.getD (List.set _ _ _) _ _)) = _; rw [HAT.out]) (w2 := w5) (g2 := g5) (cap2 := cap5) (by show World.ownsRow _ _ _ _ _ _ (tkCells (Hd.taken (List.getD (List.set _ _ _) _ _)) ++ _); rw [HAT.out]; simpa [Int.toNat_of_nonneg ha1, Int.toNat_of_nonneg hb1] using hown) (by rw [HET.out]; exact hgrow) (by rw [HET.out]; exact hat)
          have hst2 := DeskStep.comp A2.out A3.out hst
          simp only [HAT.out, List.set_set] at hst2
          exact hst2
        clear hck
        generalize de.taken.length = m at *
        clear q0 q1 q2 q3 q4 q5 qf c2 hg hdz hd2 hg2 HTK HM HH H4 A2 A3 HET HAT HOK HOK2 HTS HS HB2 HB3 HNM HNM3 HD HFL hi4 hnm4
        go_wp2_with fail
        go_region_law ((refine step_append_lies _ (by rfl) (.tmp 84) (.tmp 86) 119 (by rfl) 0 129 i0 (.agg #[.int .i64 0, .int .i64 0]) 2 16 Tryz.underlying119 hi0 hz0 hz1 hz2 rfl (by decide) (.slice ao4 m ct4) m (tkCells de.taken) (by rfl) (HROW.out.alloc _) ⟨w4.heap.size, 0, none⟩ 1 1 [.int .i64 a, .int .i64 b] (by rfl) rfl (rep_new (by simp) _ _ _) (two_cell _ _) (by decide) (by unfold maxLen; omega) (by omega) (Nat.zero_le _) (w4.heap.size + 1) (by simp) ?_; intro g5 cap5 w5 hown5 hgrow5 hat5 hlt5; have hqd := (hgrow5.block d (by simp; omega) (Ne.symm HNED.out)).trans ((Below.heap_alloc w4 _ d hdz4).trans HBLK.out); have hqg := (hgrow5.block g4 (by simp; omega) (Ne.symm HNEG.out)).trans (Below.heap_alloc w4 _ g4 hg4); obtain ⟨x0, x1, x2, xz⟩ := blk3 hqd; have y5 : w5.cell? ⟨g4, i * 6 + 5, none⟩ = some (.slice ao4 m ct4) := (cell_of_blk hqg).trans k5; have yf := frozen_of_blk hqg kf))
        all_goals
          have hst := HREP.out w5 g5 cap5 hown5 ⟨hgrow5.os, hgrow5.tape, hgrow5.output, hgrow5.size, hgrow5.block⟩ (hat5.imp id (fun e => by omega))
          have HST := hid hst
          clear hst
          go_wp2_with fail
          go_ret
          rw [HSET.out]
          exact ⟨rfl, by rw [HDE.out]; exact HST.out⟩
    · rw [if_neg hf] at hans
      obtain ⟨rfl, hb4⟩ := hans
      have HB4 := hid (HB3.out.trans (hb4.mono HB3.out.size))
      clear hb4
      go_wp2_with fail
      go_ret
      exact ⟨rfl, HB4.out⟩

end Go.Proofs.YtklicjbpjigfdabGreat
