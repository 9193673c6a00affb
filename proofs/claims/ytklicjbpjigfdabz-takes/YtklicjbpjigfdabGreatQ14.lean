/- DERIVED. Capacities when K falls; a Merge wants at most 230 coins. -/
import Derived.Test.YtklicjbpjigfdabGreatDMergeW
import Derived.Test.YtklicjbpjigfdabGreatQ5
import Derived.Test.YtklicjbpjigfdabGreatQ4
import Derived.Test.YtklicjbpjigfdabGreatQ10
import Derived.Test.YtklicjbpjigfdabGreatQ13
namespace Go.Proofs.YtklicjbpjigfdabGreat
open Go.RowKit

theorem capOf_mono {k k' d : Nat} (h : k' ≤ k) : capOf k' d ≤ capOf k d := by
  apply Nat.le_of_not_lt
  intro hlt
  have h1 := capFrom_lo (capOf_ge k d) (show capOf k d < capFrom k' (3 ^ d) (2 ^ d) k' 2 from hlt)
  have h2 := capFrom_end (k := k) (t3 := 3 ^ d) (t2 := 2 ^ d) (f := k) (c := 2) (by omega)
  change ¬ (capOf k d < k ∧ capOf k d * 3 ^ d < k * 2 ^ d) at h2
  apply h2
  exact ⟨by omega, Nat.lt_of_lt_of_le h1.2 (Nat.mul_le_mul_right _ h)⟩
theorem capSum_monoK {k k' : Nat} (h : k' ≤ k) : ∀ n, capSum k' n ≤ capSum k n
  | 0 => Nat.le_refl _
  | n + 1 => by have := capSum_monoK h n; have := capOf_mono (d := n) h; simp only [capSum]; omega
theorem capSum_230 : capSum 64 29 = 230 := by decide +kernel

theorem Roomy.mono {k k' : Nat} (h : k' ≤ k) : ∀ {L : List Lvl}, Roomy k L → Roomy k' L
  | [], _ => trivial
  | _ :: _, hr => ⟨Nat.le_trans (Nat.mul_le_mul_left _ (capOf_mono h)) hr.1, hr.2.mono h⟩
theorem Roomy.merge {k : Nat} : ∀ {T L : List Lvl}, Roomy k L → Roomy k T → Roomy k (mergeL L T)
  | [], L, h, _ => by rw [mergeL_nil]; exact h
  | t :: T, [], h, hT => by
    refine ⟨?_, Roomy.merge (T := T) (L := []) trivial hT.2⟩
    rw [mergeL_length, mergeL_wsum]
    have := hT.1
    simp [wsum]
    exact this
  | t :: T, l :: L, h, hT => by
    refine ⟨?_, Roomy.merge h.2 hT.2⟩
    rw [mergeL_length, mergeL_wsum]
    have h1 := h.1
    have h2 := hT.1
    have c1 : capOf k (max L.length T.length) ≤ capOf k L.length := capOf_anti (Nat.le_max_left _ _)
    have c2 : capOf k (max L.length T.length) ≤ capOf k T.length := capOf_anti (Nat.le_max_right _ _)
    have m1 := Nat.mul_le_mul_left l.times c1
    have m2 := Nat.mul_le_mul_left t.times c2
    show (l.times + t.times) * _ ≤ _
    rw [Nat.add_mul]
    omega
/-- A Merge wants at most 230 coins. -/
theorem merge_few {a b : Hd} (ha : a.Ok) (hb : b.Ok) (sa : nsum a.sk.lv ≤ capSum a.sk.k a.sk.lv.length) (sb : nsum b.sk.lv ≤ capSum b.sk.k b.sk.lv.length) : nsum (mgL a b) ≤ capSum (mgK a b) (mgL a b).length + 230 := by
  have e2 : (mgL a b).length = max a.sk.lv.length b.sk.lv.length := mergeL_length _ _
  have e5 : nsum (mgL a b) = nsum a.sk.lv + nsum b.sk.lv := mergeL_nsum _ _
  have ca : capSum a.sk.k a.sk.lv.length ≤ 230 := by
    rw [← capSum_230]; exact Nat.le_trans (capSum_monoK ha.k2 _) (capSum_mono ha.len)
  have cb : capSum b.sk.k b.sk.lv.length ≤ 230 := by
    rw [← capSum_230]; exact Nat.le_trans (capSum_monoK hb.k2 _) (capSum_mono hb.len)
  rw [e2, e5]
  unfold mgK mergeK
  split
  · have := capSum_mono (k := b.sk.k) (Nat.le_max_right a.sk.lv.length b.sk.lv.length); omega
  · have := capSum_mono (k := a.sk.k) (Nat.le_max_left a.sk.lv.length b.sk.lv.length); omega

end Go.Proofs.YtklicjbpjigfdabGreat

/- DERIVED. The walks of took and of Take. -/
namespace Go.Proofs.YtklicjbpjigfdabGreat
open Go.RowKit
attribute [local go_sem ↓] Go.wp_at_zero Go.wp_at_succ
variable {F : Nat → Prop}

/-- Was this report taken? -/
def tookB (l : List (Nat × Nat)) (a b : Int) : Bool := l.any (fun p => (p.1 : Int) == a && (p.2 : Int) == b)
theorem tookB_at {l : List (Nat × Nat)} {a b : Int} (h : tookB l a b = false) {j : Nat} (hj : j < l.length) : ((((l.getD j (0, 0)).1 : Int) == a) && (((l.getD j (0, 0)).2 : Int) == b)) = false := by
  unfold tookB at h
  rw [List.any_eq_false] at h
  have := h (l.getD j (0, 0)) (by simp [List.getD, hj])
  simpa using this
theorem tkCells_at : ∀ (l : List (Nat × Nat)) (j : Nat), j < l.length → (tkCells l)[j * 2]? = some (.int .i64 ((l.getD j (0, 0)).1 : Int)) ∧ (tkCells l)[j * 2 + 1]? = some (.int .i64 ((l.getD j (0, 0)).2 : Int))
  | [], j, h => by simp at h
  | p :: l, 0, _ => ⟨rfl, rfl⟩
  | p :: l, j + 1, h => by
    have := tkCells_at l j (by simpa using h)
    rw [show (j + 1) * 2 = j * 2 + 2 by omega]
    exact this
theorem tookB_take {l : List (Nat × Nat)} {a b : Int} {j : Nat} (hj : j < l.length) : tookB (l.take (j + 1)) a b = (tookB (l.take j) a b || ((((l.getD j (0, 0)).1 : Int) == a) && (((l.getD j (0, 0)).2 : Int) == b))) := by
  unfold tookB
  rw [List.take_succ_eq_append_getElem hj, List.any_append]
  simp [List.getD, hj]
theorem tookB_of {l : List (Nat × Nat)} {a b : Int} {j : Nat} (hj : j < l.length) (h : ((((l.getD j (0, 0)).1 : Int) == a) && (((l.getD j (0, 0)).2 : Int) == b)) = true) : tookB l a b = true := by
  unfold tookB
  rw [List.any_eq_true]
  exact ⟨l.getD j (0, 0), by simp [List.getD, hj], h⟩

set_option maxHeartbeats 1000000 in
set_option maxRecDepth 100000 in
theorem took_any (k g ln cap : Nat) (lo hi : Int) (sl : Bool) (tk : Value) (l : List (Nat × Nat)) (a b : Int) (w : World) (h : w.ownsRow 0 129 2 tk l.length (tkCells l)) (hl : l.length ≤ 1099511627776) :
    Calls Tryz.prog 66 #[.agg #[.int .i64 (k : Int), .slice (some ⟨g, 0, none⟩) ln cap, .int .i64 lo, .int .i64 hi, .bool sl, tk], .agg #[.int .i64 a, .int .i64 b]] w fun e w' => e = .returned (.bool (tookB l a b)) ∧ Below w.heap.size w w' := by
  have HL := hid h
  have hform : ∃ ao c, tk = .slice ao l.length c ∧ ∀ j, j < l.length → ∃ g, ao = some ⟨g, 0, none⟩ ∧ g < w.heap.size ∧ w.cell? ⟨g, j * 2, none⟩ = some (.int .i64 ((l.getD j (0, 0)).1 : Int)) ∧ w.cell? ⟨g, j * 2 + 1, none⟩ = some (.int .i64 ((l.getD j (0, 0)).2 : Int)) := by
    have h' := h
    rcases h.2 with ⟨e, hn⟩ | ⟨g, cap, cur, e, hg, hh, hnc, hcm, hcs, ht⟩
    · refine ⟨none, 0, by rw [e, hn], fun j hj => by omega⟩
    · refine ⟨some ⟨g, 0, none⟩, cap, e, fun j hj => ⟨g, rfl, ownsRow_lt h' (by rw [e]; rfl), ?_, ?_⟩⟩
      · rw [e] at h'
        exact ownsRow_cell h' (tkCells_at l j hj).1
      · rw [e] at h'
        exact ownsRow_cell h' (tkCells_at l j hj).2
  obtain ⟨ao, c, rfl, hc⟩ := hform
  generalize hn : l.length = n at *
  have HN := hid hn
  have HC := hid hc
  clear h hc hn HL
  go_enter Tryz.func66, Tryz.ntmps66
  go_wp2_with fail
  have hbA : Below w.heap.size w ((w.alloc (.cells #[.int .i64 (k : Int), .slice (some ⟨g, 0, none⟩) ln cap, .int .i64 lo, .int .i64 hi, .bool sl, .slice ao n c] 121)).alloc (.cells #[.int .i64 a, .int .i64 b] 129)) := ((Below.refl w.heap.size w).alloc (Nat.le_refl _) _).alloc (by simp) _
  have hpb : ((w.alloc (.cells #[.int .i64 (k : Int), .slice (some ⟨g, 0, none⟩) ln cap, .int .i64 lo, .int .i64 hi, .bool sl, .slice ao n c] 121)).alloc (.cells #[.int .i64 a, .int .i64 b] 129)).heap[w.heap.size + 1]? = some (.cells #[.int .i64 a, .int .i64 b] 129 (0, 0)) := by
    have := heap_alloc_new (w.alloc (.cells #[.int .i64 (k : Int), .slice (some ⟨g, 0, none⟩) ln cap, .int .i64 lo, .int .i64 hi, .bool sl, .slice ao n c] 121)) (.cells #[.int .i64 a, .int .i64 b] 129 (0, 0))
    simpa using this
  go_loopw [10] (fun si wr => ∃ j, j ≤ n ∧ si = .int .i64 (j : Int) ∧ Hid (tookB (l.take j) a b = false) ∧ Hid (Below w.heap.size w wr) ∧ Hid (wr.heap[w.heap.size + 1]? = some (.cells #[.int .i64 a, .int .i64 b] 129 (0, 0)))) (fun si _ => n - (intOf si).toNat)
  case atStart => exact ⟨0, Nat.zero_le _, rfl, by simp [tookB, Hid], hbA, hpb⟩
  case round =>
    obtain ⟨j, hj, rfl, Ht, Hb, Hp⟩ := hrel
    have hwz := Hb.out.size
    obtain ⟨p0, p1, pz⟩ := blk2 Hp.out
    have hpz := lt_of_blk' Hp.out
    by_cases hlt : j < n
    · obtain ⟨g, rfl, hgz, q0, q1⟩ := HC.out j hlt
      have r0 := (Hb.out.cell (p := ⟨g, j * 2, none⟩) hgz).trans q0
      have r1 := (Hb.out.cell (p := ⟨g, j * 2 + 1, none⟩) hgz).trans q1
      have HF := hid (tookB_take (l := l) (a := a) (b := b) (j := j) (by rw [HN.out]; exact hlt))
      have HO := hid (tookB_of (l := l) (a := a) (b := b) (j := j) (by rw [HN.out]; exact hlt))
      generalize l.getD j (0, 0) = p at *
      obtain ⟨x, y⟩ := p
      simp only at r0 r1 HF HO
      clear q0 q1
      by_cases e1 : (x : Int) = a
      · by_cases e2 : (y : Int) = b
        · have hO : tookB l a b = true := HO.out (by simp [e1, e2])
          have HO' := hid hO
          clear hO
          go_wp2_with fail
          go_ret
          exact ⟨by rw [HO'.out]; rfl, Hb.out.alloc Hb.out.size _⟩
        · have e2' : ((y : Int) == b) = false := by simpa using e2
          go_wp2_with fail
          go_roundw
          case rel => exact ⟨j + 1, by omega, by go_num, by unfold Hid; rw [HF.out, Ht.out, e2']; simp, Hb.out.alloc Hb.out.size _, (Below.heap_alloc _ _ _ hpz).trans Hp.out⟩
          case measure => simp [intOf]; omega
      · have e1' : ((x : Int) == a) = false := by simpa using e1
        go_wp2_with fail
        go_roundw
        case rel => exact ⟨j + 1, by omega, by go_num, by unfold Hid; rw [HF.out, Ht.out, e1']; simp, Hb.out.alloc Hb.out.size _, (Below.heap_alloc _ _ _ hpz).trans Hp.out⟩
        case measure => simp [intOf]; omega
    · have hjn : j = n := by omega
      have hT : tookB l a b = false := by
        have := Ht.out
        rw [hjn, ← HN.out, List.take_length] at this
        exact this
      have HT' := hid hT
      clear hT
      go_wp2_with fail
      go_ret
      exact ⟨by rw [HT'.out]; rfl, Hb.out⟩

/-- All six cells of sketch i. -/
theorem DeskIn.cells6 {w : World} {d : Nat} {D : Dk} {vt vk : Value} {rs : List Ref} (h : DeskIn F w d D vt vk rs) {i : Nat} (hi : i < D.sks.length) :
    ∃ g c ao ct, vk = .slice (some ⟨g, 0, none⟩) D.sks.length c ∧ g < w.heap.size ∧ (rs.getD i Ref.none).tk = .slice ao (D.sks.getD i Hd.none).taken.length ct ∧ w.cell? ⟨g, i * 6, none⟩ = some (.int .i64 ((D.sks.getD i Hd.none).sk.k : Int)) ∧
      w.cell? ⟨g, i * 6 + 1, none⟩ = some (.slice (some ⟨(rs.getD i Ref.none).g, 0, none⟩) (D.sks.getD i Hd.none).sk.lv.length (rs.getD i Ref.none).cap) ∧
      w.cell? ⟨g, i * 6 + 2, none⟩ = some (.int .i64 (D.sks.getD i Hd.none).sk.lo) ∧ w.cell? ⟨g, i * 6 + 3, none⟩ = some (.int .i64 (D.sks.getD i Hd.none).sk.hi) ∧
      w.cell? ⟨g, i * 6 + 4, none⟩ = some (.bool (D.sks.getD i Hd.none).sealed) ∧ w.cell? ⟨g, i * 6 + 5, none⟩ = some (.slice ao (D.sks.getD i Hd.none).taken.length ct) ∧ (∀ o, w.frozen? ⟨g, o, none⟩ = false) := by
  obtain ⟨vo, c, e, hc⟩ := h.vkForm
  obtain ⟨g, rfl, hg, hcc⟩ := hc i hi
  have hform : ∃ ao ct, (rs.getD i Ref.none).tk = .slice ao (D.sks.getD i Hd.none).taken.length ct := by
    rcases (h.tk i hi).2 with ⟨e, hn⟩ | ⟨g, cap, cur, e, _⟩
    · exact ⟨none, 0, by rw [e, hn]⟩
    · exact ⟨_, _, e⟩
  obtain ⟨ao, ct, et⟩ := hform
  have hfr : ∀ o, w.frozen? ⟨g, o, none⟩ = false := by
    intro o
    subst e
    obtain ⟨cc, hc⟩ := ownsRow_blk h.row (g := g) rfl
    simp [World.frozen?, hc]
  exact ⟨g, c, ao, ct, e, hg, et, hcc 0 (by omega) _ rfl, hcc 1 (by omega) _ rfl, hcc 2 (by omega) _ rfl, hcc 3 (by omega) _ rfl, hcc 4 (by omega) _ rfl, by rw [← et]; exact hcc 5 (by omega) _ rfl, hfr⟩

set_option maxHeartbeats 400000 in
theorem dtake_no (d : Nat) (D : Dk) (s a b : Int) (t : ByteArray) (w : World) (h : DeskAt F w d D) (hs : hasB s D.sks.length = false) :
    Calls Tryz.prog 35 #[.pointer (some ⟨d, 0, none⟩), .int .i64 s, .int .i64 a, .int .i64 b, .string t] w fun e w' => e = .returned (.int .i64 4) ∧ w' = w := by
  obtain ⟨vt, vk, rs, h⟩ := h
  obtain ⟨ao, c, rfl, _⟩ := h.vkForm
  obtain ⟨_, _, c2, _⟩ := blk3 h.blk
  have HH := hid (has_any d s _ _ _ _ c2)
  rw [hs] at HH
  clear h
  go_enter Tryz.func35, Tryz.ntmps35
  go_wp2_with (go_at_call 59; refine HH.out.mono ?_; rintro e w' ⟨rfl, rfl⟩)
  go_ret
  exact ⟨rfl, rfl⟩

set_option maxHeartbeats 400000 in
theorem dtake_sealed (d i : Nat) (D : Dk) (a b : Int) (t : ByteArray) (w : World) (h : DeskAt F w d D) (hi : i < D.sks.length) (hs : (D.sks.getD i Hd.none).sealed = true) :
    Calls Tryz.prog 35 #[.pointer (some ⟨d, 0, none⟩), .int .i64 (i : Int), .int .i64 a, .int .i64 b, .string t] w fun e w' => e = .returned (.int .i64 5) ∧ w' = w := by
  obtain ⟨vt, vk, rs, h⟩ := h
  obtain ⟨g, c, rfl, hg, q0, q1, q2, q3, q4⟩ := h.cells5 hi
  obtain ⟨_, _, c2, _⟩ := blk3 h.blk
  have HH := hid (has_any d (i : Int) _ _ _ _ c2)
  rw [hasB_nat hi] at HH
  rw [hs] at q4
  have hs1 : (0 : Int) ≤ (i : Int) := by omega
  have hs2 : (i : Int) < (D.sks.length : Int) := by omega
  clear h q0 q1 q2 q3
  generalize D.sks.length = n at *
  go_enter Tryz.func35, Tryz.ntmps35
  go_wp2_with (go_at_call 59; refine HH.out.mono ?_; rintro e w' ⟨rfl, rfl⟩)
  go_ret
  exact ⟨rfl, rfl⟩

set_option maxHeartbeats 400000 in
theorem dtake_arg (d i : Nat) (D : Dk) (a b : Int) (t : ByteArray) (w : World) (h : DeskAt F w d D) (hi : i < D.sks.length) (hs : (D.sks.getD i Hd.none).sealed = false) (ha : ¬ (0 ≤ a ∧ a ≤ 255 ∧ 0 ≤ b)) :
    Calls Tryz.prog 35 #[.pointer (some ⟨d, 0, none⟩), .int .i64 (i : Int), .int .i64 a, .int .i64 b, .string t] w fun e w' => e = .returned (.int .i64 1) ∧ w' = w := by
  obtain ⟨vt, vk, rs, h⟩ := h
  obtain ⟨g, c, rfl, hg, q0, q1, q2, q3, q4⟩ := h.cells5 hi
  obtain ⟨_, _, c2, _⟩ := blk3 h.blk
  have HH := hid (has_any d (i : Int) _ _ _ _ c2)
  rw [hasB_nat hi] at HH
  rw [hs] at q4
  have hs1 : (0 : Int) ≤ (i : Int) := by omega
  have hs2 : (i : Int) < (D.sks.length : Int) := by omega
  clear h q0 q1 q2 q3
  generalize D.sks.length = n at *
  by_cases h1 : a < 0
  · clear ha
    go_enter Tryz.func35, Tryz.ntmps35
    go_wp2_with (go_at_call 59; refine HH.out.mono ?_; rintro e w' ⟨rfl, rfl⟩)
    go_ret
    exact ⟨rfl, rfl⟩
  · by_cases h2 : 255 < a
    · clear ha
      go_enter Tryz.func35, Tryz.ntmps35
      go_wp2_with (go_at_call 59; refine HH.out.mono ?_; rintro e w' ⟨rfl, rfl⟩)
      go_ret
      exact ⟨rfl, rfl⟩
    · have h3 : b < 0 := by omega
      clear ha
      go_enter Tryz.func35, Tryz.ntmps35
      go_wp2_with (go_at_call 59; refine HH.out.mono ?_; rintro e w' ⟨rfl, rfl⟩)
      go_ret
      exact ⟨rfl, rfl⟩

end Go.Proofs.YtklicjbpjigfdabGreat
