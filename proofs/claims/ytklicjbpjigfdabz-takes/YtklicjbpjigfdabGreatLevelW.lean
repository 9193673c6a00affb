/- DERIVED. The walk of the desk's Level. -/
import Derived.Test.YtklicjbpjigfdabGreatQ8
namespace Go.Proofs.YtklicjbpjigfdabGreat
open Go.RowKit
variable {F : Nat → Prop}

set_option maxHeartbeats 400000 in
set_option maxRecDepth 100000 in
theorem deskLevel_no (d : Nat) (D : Dk) (i : Nat) (hh : Int) (w : World) (h : DeskAt F w d D) (hi : i < D.sks.length) (hno : hh < 0 ∨ ((D.sks.getD i Hd.none).sk.lv.length : Int) ≤ hh) :
    Calls Tryz.prog 41 #[.pointer (some ⟨d, 0, none⟩), .int .i64 (i : Int), .int .i64 hh] w fun e w' => e = .returned (.tuple #[.slice none 0 0, .int .i64 1]) ∧ w' = w := by
  obtain ⟨vt, vk, rs, h⟩ := h
  have hdz := lt_of_blk' h.blk
  obtain ⟨g, c, rfl, hg, q0, q1, q2, q3, q4⟩ := h.cells5 hi
  obtain ⟨_, _, c2, _⟩ := blk3 h.blk
  have HH := hid (has_any d (i : Int) _ _ _ _ c2)
  rw [hasB_nat hi] at HH
  generalize (D.sks.getD i Hd.none).sk = sk at *
  generalize rs.getD i Ref.none = r at *
  generalize (D.sks.getD i Hd.none).sealed = sl at *
  generalize D.sks.length = n at *
  generalize sk.lv.length = ln at *
  clear h
  by_cases h0 : hh < 0
  · have h0' : decide (hh < 0) = true := by simpa using h0
    go_enter Tryz.func41, Tryz.ntmps41
    go_wp2_with (first | (go_at_call 59; refine HH.out.mono ?_; rintro e w' ⟨rfl, hw⟩; obtain rfl := hw.symm))
    go_ret2
    exact ⟨rfl, rfl⟩
  · have h1 : (ln : Int) ≤ hh := by omega
    have h0' : decide (hh < 0) = false := by simpa using h0
    go_enter Tryz.func41, Tryz.ntmps41
    go_wp2_with (first | (go_at_call 59; refine HH.out.mono ?_; rintro e w' ⟨rfl, hw⟩; obtain rfl := hw.symm))
    go_ret2
    exact ⟨rfl, rfl⟩

/-- What a copy out of a list of numbers does. -/
theorem run_copy_ints (w : World) (i0 : TypeInfo) (hi0 : Tryz.prog.info? 3 = some i0) (hz1 : i0.size = 1) {B g m c : Nat} {ao : Option Addr} {zs : List Value} {xs : List Int}
    (hown : w.ownsRow B 3 1 (.slice (some ⟨g, 0, none⟩) m m) m zs) (hx : Ints w (.slice ao m c) xs) (hm : m = xs.length) :
    ∃ w', (Builtin.copy_ #[28, 28] 3 #[.slice (some ⟨g, 0, none⟩) m m, .slice ao m c]).run Tryz.prog w = .ok (goInt m) w' ∧ w'.ownsRow B 3 1 (.slice (some ⟨g, 0, none⟩) m m) m (ints xs) ∧ w.grownBy w' (some g) := by
  by_cases h0 : m = 0
  · have hz : zs = ints xs := by
      have e1 : zs.length = 0 := by have := hown.1; omega
      have e2 : xs = [] := List.eq_nil_of_length_eq_zero (by omega)
      rw [List.eq_nil_of_length_eq_zero e1, e2]; rfl
    refine ⟨w, ?_, by rw [← hz]; exact hown, ⟨rfl, rfl, rfl, Nat.le_refl _, fun _ _ _ => rfl⟩⟩
    subst h0
    exact run_copy_none (P := Tryz.prog) w _ _ _ 3 _ _ _ _ _ _ Tryz.underlying28 (by rw [hi0]; simp [hz1]) (by simp)
  · rcases hx.2 with ⟨e, hn⟩ | ⟨g2, cap, cur, e, hg, hh, hnc, hcm, hcs, ht⟩
    · omega
    · cases e
      refine run_copy_all (P := Tryz.prog) w 28 28 3 3 i0 1 Tryz.underlying28 hi0 hz1 B g _ _ g2 _ zs (ints xs) hown (fun j v hj => ownsRow_cell hx hj) (by rw [ints_length]; omega) (ints_one _)

set_option maxHeartbeats 400000 in
set_option maxRecDepth 100000 in
theorem deskLevel (d : Nat) (D : Dk) (i j : Nat) (w : World) (h : DeskAt F w d D) (hi : i < D.sks.length) (hj : j < (D.sks.getD i Hd.none).sk.lv.length) (hok : (D.sks.getD i Hd.none).Ok) :
    Calls Tryz.prog 41 #[.pointer (some ⟨d, 0, none⟩), .int .i64 (i : Int), .int .i64 (j : Int)] w fun e w' => e = .returned (.tuple #[.slice (some ⟨w.heap.size, 0, none⟩) ((D.sks.getD i Hd.none).sk.lv.getD j Lvl.none).items.length ((D.sks.getD i Hd.none).sk.lv.getD j Lvl.none).items.length, .int .i64 0]) ∧
      Ints w' (.slice (some ⟨w.heap.size, 0, none⟩) ((D.sks.getD i Hd.none).sk.lv.getD j Lvl.none).items.length ((D.sks.getD i Hd.none).sk.lv.getD j Lvl.none).items.length) ((D.sks.getD i Hd.none).sk.lv.getD j Lvl.none).items ∧ Below w.heap.size w w' := by
  obtain ⟨vt, vk, rs, h⟩ := h
  have hdz := lt_of_blk' h.blk
  obtain ⟨g, c, rfl, hg, q0, q1, q2, q3, q4⟩ := h.cells5 hi
  obtain ⟨_, _, c2, _⟩ := blk3 h.blk
  have HH := hid (has_any d (i : Int) _ _ _ _ c2)
  rw [hasB_nat hi] at HH
  have hlv := h.lv i hi
  have hits := hlv.its j hj
  have p0 := hlv.cell0 hj
  obtain ⟨ao, ci, ev, _⟩ := hits.form
  rw [ev] at p0 hits
  have hbd : ((D.sks.getD i Hd.none).sk.lv.getD j Lvl.none).items.length ≤ 268435456 := by have := nsum_at hj; have := nsum_le (D.sks.getD i Hd.none).sk.lv; have := hok.cnt; omega
  have hlz := hlv.lt
  generalize (D.sks.getD i Hd.none).sk = sk at *
  generalize rs.getD i Ref.none = r at *
  generalize (D.sks.getD i Hd.none).sealed = sl at *
  generalize D.sks.length = n at *
  generalize sk.lv.length = ln at *
  generalize (sk.lv.getD j Lvl.none).items = its at *
  have HI := hid hits
  generalize hm : its.length = m at *
  have HM := hid hm
  obtain ⟨i0, hi0, hz0, hz1, hz2⟩ := info_parts Tryz.infoInt
  clear h hok hlv hits ev hm
  go_enter Tryz.func41, Tryz.ntmps41
  go_wp2_with (first | (go_at_call 59; refine HH.out.mono ?_; rintro e w' ⟨rfl, hw⟩; obtain rfl := hw.symm) | (at_make; refine wpList_make_full _ rfl _ _ 28 rfl w.heap.size 3 i0 (.int .i64 0) 1 Tryz.underlying28 hi0 hz0 hz1 _ _ _ _ m rfl rfl (by rfl) (by rfl) (by rw [hz2]; omega) (by unfold maxLen; omega) (Nat.le_refl _) ?_; intro w1 hown1 hgrow1; have hb1 : Below w.heap.size w w1 := (Below.refl _ _).grown hgrow1 (Nat.le_refl _) (fun k h => by cases h); have p1 := cell_later hb1 p0; have HB1 := hid hb1; obtain ⟨w2, hrun, hown2, hgrow2⟩ := run_copy_ints w1 i0 hi0 hz1 hown1 (HI.out.below hb1) HM.out.symm; have HO2 := hid hown2; have HG2 := hid hgrow2; clear hown1 hgrow1 hb1 hown2 hgrow2))
  go_ret2
  refine ⟨rfl, ?_, HB1.out.grown HG2.out HB1.out.size (fun k h => by cases h; exact Nat.le_refl _)⟩
  exact Ints.of HO2.out

end Go.Proofs.YtklicjbpjigfdabGreat
