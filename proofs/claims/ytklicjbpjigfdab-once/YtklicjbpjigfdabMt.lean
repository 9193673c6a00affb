/- DERIVED. The walks of the desk that only read: has, Left, Size, Ends, Level, Ledger; and New. -/
import Derived.Test.YtklicjbpjigfdabDeskP
import Derived.Deep.QuietTactic
import Derived.BigQuiet
import Derived.WalkSmall
namespace Go.Proofs.Ytklicjbpjigfdab
open Go.RowKit
variable {F : Nat → Prop}

/-- Is there a sketch s? -/
def hasB (s : Int) (n : Nat) : Bool := decide (0 ≤ s ∧ s < (n : Int))

set_option maxHeartbeats 400000 in
theorem has_any (d : Nat) (s : Int) (n c : Nat) (ao : Option Addr) (w : World) (h : w.cell? ⟨d, 2, none⟩ = some (.slice ao n c)) :
    Calls Try.prog 32 #[.pointer (some ⟨d, 0, none⟩), .int .i64 s] w fun e w' => e = .returned (.bool (hasB s n)) ∧ w' = w := by
  by_cases h0 : 0 ≤ s
  · by_cases h1 : s < (n : Int)
    · have HB : Hid (hasB s n = true) := by simp [Hid, hasB, h0, h1]
      go_enter Try.func32, Try.ntmps32
      go_wp2
      go_ret
      exact ⟨by rw [HB.out]; simp, rfl⟩
    · have HB : Hid (hasB s n = false) := by simp [Hid, hasB, h0, h1]
      go_enter Try.func32, Try.ntmps32
      go_wp2
      go_ret
      exact ⟨by rw [HB.out]; simp, rfl⟩
  · have HB : Hid (hasB s n = false) := by simp [Hid, hasB, h0]
    have h0' : decide (0 ≤ s) = false := by simpa using h0
    go_enter Try.func32, Try.ntmps32
    go_wp2
    go_ret
    exact ⟨by rw [HB.out]; rfl, rfl⟩

set_option maxHeartbeats 400000 in
theorem left_any (d n c : Nat) (ao : Option Addr) (w : World) (h : w.cell? ⟨d, 1, none⟩ = some (.slice ao n c)) :
    Calls Try.prog 64 #[.pointer (some ⟨d, 0, none⟩)] w fun e w' => e = .returned (.int .i64 (n : Int)) ∧ w' = w := by
  go_enter Try.func64, Try.ntmps64
  go_wp2_with (go_at_call 87; refine (tapeLeft_any _ _ _ _ _ h).mono ?_; rintro e w' ⟨rfl, rfl⟩)
  go_ret
  exact ⟨rfl, rfl⟩

theorem deskLeft (d : Nat) (D : Dk) (w : World) (h : DeskAt F w d D) :
    Calls Try.prog 64 #[.pointer (some ⟨d, 0, none⟩)] w fun e w' => e = .returned (.int .i64 (D.tape.length : Int)) ∧ w' = w := by
  obtain ⟨vt, vk, rs, h⟩ := h
  obtain ⟨ao, c, rfl⟩ := h.vtForm
  obtain ⟨_, c1, _, _⟩ := blk3 h.blk
  exact left_any d _ _ _ w c1

/-- The five cells of sketch i. -/
theorem DeskIn.cells5 {w : World} {d : Nat} {D : Dk} {vt vk : Value} {rs : List Ref} (h : DeskIn F w d D vt vk rs) {i : Nat} (hi : i < D.sks.length) :
    ∃ g c, vk = .slice (some ⟨g, 0, none⟩) D.sks.length c ∧ g < w.heap.size ∧ w.cell? ⟨g, i * 6, none⟩ = some (.int .i64 ((D.sks.getD i Hd.none).sk.k : Int)) ∧
      w.cell? ⟨g, i * 6 + 1, none⟩ = some (.slice (some ⟨(rs.getD i Ref.none).g, 0, none⟩) (D.sks.getD i Hd.none).sk.lv.length (rs.getD i Ref.none).cap) ∧
      w.cell? ⟨g, i * 6 + 2, none⟩ = some (.int .i64 (D.sks.getD i Hd.none).sk.lo) ∧ w.cell? ⟨g, i * 6 + 3, none⟩ = some (.int .i64 (D.sks.getD i Hd.none).sk.hi) ∧
      w.cell? ⟨g, i * 6 + 4, none⟩ = some (.bool (D.sks.getD i Hd.none).sealed) := by
  obtain ⟨ao, c, e, hc⟩ := h.vkForm
  obtain ⟨g, rfl, hg, hcc⟩ := hc i hi
  exact ⟨g, c, e, hg, hcc 0 (by omega) _ rfl, hcc 1 (by omega) _ rfl, hcc 2 (by omega) _ rfl, hcc 3 (by omega) _ rfl, hcc 4 (by omega) _ rfl⟩

set_option maxHeartbeats 400000 in
set_option maxRecDepth 100000 in
theorem deskSize_no (d : Nat) (D : Dk) (s : Int) (w : World) (h : DeskAt F w d D) (hs : hasB s D.sks.length = false) :
    Calls Try.prog 42 #[.pointer (some ⟨d, 0, none⟩), .int .i64 s] w fun e w' => e = .returned (.tuple #[.agg #[.int .i64 0, .int .i64 0, .int .i64 0, .int .i64 0], .int .i64 4]) ∧ Below w.heap.size w w' := by
  obtain ⟨vt, vk, rs, h⟩ := h
  obtain ⟨ao, c, rfl, _⟩ := h.vkForm
  obtain ⟨_, _, c2, _⟩ := blk3 h.blk
  have hdz := lt_of_blk' h.blk
  have c2' : (w.alloc (.cells #[.int .i64 0, .int .i64 0, .int .i64 0, .int .i64 0] 99)).cell? ⟨d, 2, none⟩ = some (.slice ao D.sks.length c) := by rw [World.cell?_alloc_lt (h := hdz)]; exact c2
  have HH := hid (has_any d s _ _ _ _ c2')
  rw [hs] at HH
  clear h
  go_enter Try.func42, Try.ntmps42
  go_wp2_with (go_at_call 32; refine HH.out.mono ?_; rintro e w' ⟨rfl, rfl⟩)
  exact bodyPost_ret (v := .tuple #[.agg #[.int .i64 0, .int .i64 0, .int .i64 0, .int .i64 0], .int .i64 4]) (by simp [results, Try.results42, go_sem]) rfl ⟨rfl, (Below.refl _ _).alloc (Nat.le_refl _) _⟩

theorem hasB_nat {i n : Nat} (h : i < n) : hasB (i : Int) n = true := by simp [hasB, h]
/-- What the program asks of a sketch that it tells of. -/
structure Hd.Ok (h : Hd) : Prop where
  k1 : 2 ≤ h.sk.k
  k2 : h.sk.k ≤ 64
  len1 : 1 ≤ h.sk.lv.length
  len : h.sk.lv.length ≤ 29
  cnt : wsum h.sk.lv ≤ 268435456
  tms : ∀ j, (h.sk.lv.getD j Lvl.none).times ≤ 549755813888
def Dk.Ok (D : Dk) : Prop := ∀ i, i < D.sks.length → (D.sks.getD i Hd.none).Ok

set_option maxHeartbeats 400000 in
set_option maxRecDepth 100000 in
theorem deskSize (d : Nat) (D : Dk) (i : Nat) (w : World) (h : DeskAt F w d D) (hi : i < D.sks.length) (hok : (D.sks.getD i Hd.none).Ok) :
    Calls Try.prog 42 #[.pointer (some ⟨d, 0, none⟩), .int .i64 (i : Int)] w fun e w' => e = .returned (.tuple #[.agg #[.int .i64 ((D.sks.getD i Hd.none).sk.k : Int), .int .i64 (wsum (D.sks.getD i Hd.none).sk.lv : Int), .int .i64 (nsum (D.sks.getD i Hd.none).sk.lv : Int), .int .i64 ((D.sks.getD i Hd.none).sk.lv.length : Int)], .int .i64 0]) ∧ Below w.heap.size w w' := by
  obtain ⟨vt, vk, rs, h⟩ := h
  have hdz := lt_of_blk' h.blk
  have hA := h.below ((Below.refl w.heap.size w).alloc (Nat.le_refl _) (.cells #[.int .i64 0, .int .i64 0, .int .i64 0, .int .i64 0] 99))
  obtain ⟨g, c, rfl, hg, q0, q1, q2, q3, q4⟩ := hA.cells5 hi
  obtain ⟨_, _, c2, _⟩ := blk3 hA.blk
  have HH := hid (has_any d (i : Int) _ _ _ _ c2)
  rw [hasB_nat hi] at HH
  have HL := hid (size_any (D.sks.getD i Hd.none).sk.k _ _ (D.sks.getD i Hd.none).sk.lo (D.sks.getD i Hd.none).sk.hi _ _ _ (hA.lv i hi) (by have := hok.len; omega) (by have := hok.cnt; omega))
  generalize (D.sks.getD i Hd.none).sk = sk at *
  generalize rs.getD i Ref.none = r at *
  generalize (D.sks.getD i Hd.none).sealed = sl at *
  have hwz : w.heap.size < (w.alloc (.cells #[.int .i64 0, .int .i64 0, .int .i64 0, .int .i64 0] 99)).heap.size := by simp
  generalize D.sks.length = n at *
  have hblk := heap_alloc_new w (.cells #[.int .i64 0, .int .i64 0, .int .i64 0, .int .i64 0] 99 (0, 0))
  have HBL := hid hblk
  clear hA h hok hblk
  go_enter Try.func42, Try.ntmps42
  go_wp2_with (first | (go_at_call 32; refine HH.out.mono ?_; rintro e w' ⟨rfl, rfl⟩) | (go_at_call 74; refine HL.out.mono ?_; rintro e w1 ⟨rfl, hb1⟩; have hk := (hb1.block _ hwz).trans HBL.out; obtain ⟨e0, e1, e2, e3, ez⟩ := blk4 hk; have HB1 := hid hb1; clear hb1 hk))
  exact bodyPost_ret (v := .tuple #[.agg #[.int .i64 (sk.k : Int), .int .i64 (wsum sk.lv : Int), .int .i64 (nsum sk.lv : Int), .int .i64 (sk.lv.length : Int)], .int .i64 0]) (by simp [results, Try.results42, go_sem, e0, e1, e2, e3]) rfl ⟨rfl, below_set4 (((Below.refl _ _).alloc (Nat.le_refl _) _).trans (HB1.out.mono (by simp))) (Nat.le_refl _) _ _ _ _⟩

end Go.Proofs.Ytklicjbpjigfdab

/- DERIVED. The walks of the desk that only read, more: Ends, Level, Ledger; and New. -/
namespace Go.Proofs.Ytklicjbpjigfdab
open Go.RowKit
variable {F : Nat → Prop}

set_option maxHeartbeats 400000 in
set_option maxRecDepth 100000 in
theorem deskEnds (d : Nat) (D : Dk) (i : Nat) (w : World) (h : DeskAt F w d D) (hi : i < D.sks.length) (hok : (D.sks.getD i Hd.none).Ok) :
    Calls Try.prog 51 #[.pointer (some ⟨d, 0, none⟩), .int .i64 (i : Int)] w fun e w' => e = .returned (if wsum (D.sks.getD i Hd.none).sk.lv = 0 then .tuple #[.int .i64 0, .int .i64 0, .int .i64 8] else .tuple #[.int .i64 (D.sks.getD i Hd.none).sk.lo, .int .i64 (D.sks.getD i Hd.none).sk.hi, .int .i64 0]) ∧ Below w.heap.size w w' := by
  obtain ⟨vt, vk, rs, h⟩ := h
  have hdz := lt_of_blk' h.blk
  obtain ⟨g, c, rfl, hg, q0, q1, q2, q3, q4⟩ := h.cells5 hi
  obtain ⟨_, _, c2, _⟩ := blk3 h.blk
  have HH := hid (has_any d (i : Int) _ _ _ _ c2)
  rw [hasB_nat hi] at HH
  have HL := hid (fun (w' : World) (hb : Below w.heap.size w w') => count_any (F := F) (D.sks.getD i Hd.none).sk.k _ _ (D.sks.getD i Hd.none).sk.lo (D.sks.getD i Hd.none).sk.hi _ _ w' ((h.lv i hi).below hb) (by have := hok.len; omega) (by have := hok.cnt; omega))
  generalize (D.sks.getD i Hd.none).sk = sk at *
  generalize rs.getD i Ref.none = r at *
  generalize (D.sks.getD i Hd.none).sealed = sl at *
  generalize D.sks.length = n at *
  clear h hok
  go_enter Try.func51, Try.ntmps51
  go_wp2_with (first | (go_at_call 32; refine HH.out.mono ?_; rintro e w' ⟨rfl, hw⟩; obtain rfl := hw.symm))
  refine (HL.out _ ((Below.refl _ _).alloc (Nat.le_refl _) _)).mono ?_
  rintro e w1 ⟨rfl, hb1⟩
  have hk := below_new hb1 (by simp)
  obtain ⟨e0, e1, e2, e3, ez⟩ := blk4 hk
  have HB1 : Hid (Below w.heap.size w w1) := ((Below.refl _ _).alloc (Nat.le_refl _) _).trans (hb1.mono (by simp))
  clear hb1 hk
  by_cases h0 : wsum sk.lv = 0
  · rw [h0]
    go_wp2_with fail
    go_ret3
    exact ⟨by simp, HB1.out⟩
  · have h0' : ((wsum sk.lv : Int) == 0) = false := by simpa using h0
    go_wp2_with fail
    go_quiet (fail)
    go_wp2_with fail
    go_ret3
    exact ⟨by simp, below_drewN HB1.out _⟩

set_option maxHeartbeats 400000 in
set_option maxRecDepth 100000 in
theorem deskLedger (d : Nat) (D : Dk) (i : Nat) (w : World) (h : DeskAt F w d D) (hi : i < D.sks.length) (hok : (D.sks.getD i Hd.none).Ok) (hss : ssum (D.sks.getD i Hd.none).sk.lv ≤ 1152921504606846976) :
    Calls Try.prog 71 #[.pointer (some ⟨d, 0, none⟩), .int .i64 (i : Int)] w fun e w' => ∃ gt ct, e = .returned (.tuple #[.agg #[.slice (some ⟨gt, 0, none⟩) (D.sks.getD i Hd.none).sk.lv.length ct, .int .i64 (esum (D.sks.getD i Hd.none).sk.lv : Int), .int .i64 (ssum (D.sks.getD i Hd.none).sk.lv : Int)], .int .i64 0]) ∧ w.heap.size ≤ gt ∧ w'.ownsRow 0 3 1 (.slice (some ⟨gt, 0, none⟩) (D.sks.getD i Hd.none).sk.lv.length ct) (D.sks.getD i Hd.none).sk.lv.length (ints (timesOf (D.sks.getD i Hd.none).sk.lv)) ∧ Below w.heap.size w w' := by
  obtain ⟨vt, vk, rs, h⟩ := h
  have hdz := lt_of_blk' h.blk
  have hA := h.below ((Below.refl w.heap.size w).alloc (Nat.le_refl _) (.cells #[.slice none 0 0, .int .i64 0, .int .i64 0] 131))
  obtain ⟨g, c, rfl, hg, q0, q1, q2, q3, q4⟩ := hA.cells5 hi
  obtain ⟨_, _, c2, _⟩ := blk3 hA.blk
  have HH := hid (has_any d (i : Int) _ _ _ _ c2)
  rw [hasB_nat hi] at HH
  have HL := hid (ledger_any (D.sks.getD i Hd.none).sk.k _ _ (D.sks.getD i Hd.none).sk.lo (D.sks.getD i Hd.none).sk.hi _ _ _ (hA.lv i hi) (by have := hok.len; omega) hss)
  generalize (D.sks.getD i Hd.none).sk = sk at *
  generalize rs.getD i Ref.none = r at *
  generalize (D.sks.getD i Hd.none).sealed = sl at *
  have hwz : w.heap.size < (w.alloc (.cells #[.slice none 0 0, .int .i64 0, .int .i64 0] 131)).heap.size := by simp
  generalize D.sks.length = n at *
  have hblk := heap_alloc_new w (.cells #[.slice none 0 0, .int .i64 0, .int .i64 0] 131 (0, 0))
  have HBL := hid hblk
  clear hA h hok hblk
  go_enter Try.func71, Try.ntmps71
  go_wp2_with (first | (go_at_call 32; refine HH.out.mono ?_; rintro e w' ⟨rfl, rfl⟩) | (go_at_call 94; refine HL.out.mono ?_; rintro e w1 ⟨gt, ct, rfl, hgt, hown1, hb1⟩; have hk := (hb1.block _ hwz).trans HBL.out; obtain ⟨e0, e1, e2, ez⟩ := blk3 hk; have HB1 := hid hb1; have HO1 := hid hown1; have HK := hid hk; simp at hgt; clear hb1 hk hown1))
  refine bodyPost_ret (v := .tuple #[.agg #[.slice (some ⟨gt, 0, none⟩) sk.lv.length ct, .int .i64 (esum sk.lv : Int), .int .i64 (ssum sk.lv : Int)], .int .i64 0]) (by simp [results, Try.results71, go_sem, e0, e1, e2]) rfl ⟨gt, ct, rfl, by omega, ?_, below_set3 (((Below.refl _ _).alloc (Nat.le_refl _) _).trans (HB1.out.mono (by simp))) (Nat.le_refl _) _ _ _⟩
  exact ownsRow_block HO1.out (fun b hb => by simp [Value.ownBlock] at hb; subst hb; exact set3_other _ _ _ (by omega))

set_option maxHeartbeats 400000 in
theorem new_any (room : Nat) (w : World) (h1 : 1 ≤ room) (h2 : room ≤ 8) :
    Calls Try.prog 19 #[.int .i64 (room : Int)] w fun e w' => e = .returned (.tuple #[.pointer (some ⟨w.heap.size, 0, none⟩), .int .i64 0]) ∧ DeskAt (fun b => b = w.heap.size) w' w.heap.size ⟨room, [], []⟩ ∧ Below w.heap.size w w' := by
  go_enter Try.func19, Try.ntmps19
  go_wp2
  go_ret2
  refine ⟨rfl, ⟨.slice none 0 0, .slice none 0 0, [], heap_alloc_new _ _, rfl, World.ownsRow_nil _ _ _ _, fun b h => by simp [Value.ownBlock] at h, World.ownsRow_nil _ _ _ _, fun b h => by simp [Value.ownBlock] at h, rfl, fun i hi => by simp at hi, fun i hi => by simp at hi, fun b h => by subst h; simp, fun i hi => by simp at hi, fun i hi => by simp at hi, fun i j b hi => by simp at hi⟩, (Below.refl _ _).alloc (Nat.le_refl _) _⟩

end Go.Proofs.Ytklicjbpjigfdab

/- DERIVED. The walk of the desk's Level. -/
namespace Go.Proofs.Ytklicjbpjigfdab
open Go.RowKit
variable {F : Nat → Prop}

set_option maxHeartbeats 400000 in
set_option maxRecDepth 100000 in
theorem deskLevel_no (d : Nat) (D : Dk) (i : Nat) (hh : Int) (w : World) (h : DeskAt F w d D) (hi : i < D.sks.length) (hno : hh < 0 ∨ ((D.sks.getD i Hd.none).sk.lv.length : Int) ≤ hh) :
    Calls Try.prog 43 #[.pointer (some ⟨d, 0, none⟩), .int .i64 (i : Int), .int .i64 hh] w fun e w' => e = .returned (.tuple #[.slice none 0 0, .int .i64 1]) ∧ w' = w := by
  obtain ⟨vt, vk, rs, h⟩ := h
  have hdz := lt_of_blk' h.blk
  obtain ⟨g, c, rfl, hg, q0, q1, q2, q3, q4⟩ := h.cells5 hi
  obtain ⟨_, _, c2, _⟩ := blk3 h.blk
  have HH := hid (has_any d (i : Int) _ _ _ _ c2)
  rw [hasB_nat hi] at HH
  generalize (D.sks.getD i Hd.none).sk = sk at *
  generalize rs.getD i Ref.none = r at *
  generalize (D.sks.getD i Hd.none).sealed = sl at *
  generalize D.sks.length = n at *
  generalize sk.lv.length = ln at *
  clear h
  by_cases h0 : hh < 0
  · have h0' : decide (hh < 0) = true := by simpa using h0
    go_enter Try.func43, Try.ntmps43
    go_wp2_with (first | (go_at_call 32; refine HH.out.mono ?_; rintro e w' ⟨rfl, hw⟩; obtain rfl := hw.symm))
    go_ret2
    exact ⟨rfl, rfl⟩
  · have h1 : (ln : Int) ≤ hh := by omega
    have h0' : decide (hh < 0) = false := by simpa using h0
    go_enter Try.func43, Try.ntmps43
    go_wp2_with (first | (go_at_call 32; refine HH.out.mono ?_; rintro e w' ⟨rfl, hw⟩; obtain rfl := hw.symm))
    go_ret2
    exact ⟨rfl, rfl⟩

/-- What a copy out of a list of numbers does. -/
theorem run_copy_ints (w : World) (i0 : TypeInfo) (hi0 : Try.prog.info? 3 = some i0) (hz1 : i0.size = 1) {B g m c : Nat} {ao : Option Addr} {zs : List Value} {xs : List Int}
    (hown : w.ownsRow B 3 1 (.slice (some ⟨g, 0, none⟩) m m) m zs) (hx : Ints w (.slice ao m c) xs) (hm : m = xs.length) :
    ∃ w', (Builtin.copy_ #[91, 91] 3 #[.slice (some ⟨g, 0, none⟩) m m, .slice ao m c]).run Try.prog w = .ok (goInt m) w' ∧ w'.ownsRow B 3 1 (.slice (some ⟨g, 0, none⟩) m m) m (ints xs) ∧ w.grownBy w' (some g) := by
  by_cases h0 : m = 0
  · have hz : zs = ints xs := by
      have e1 : zs.length = 0 := by have := hown.1; omega
      have e2 : xs = [] := List.eq_nil_of_length_eq_zero (by omega)
      rw [List.eq_nil_of_length_eq_zero e1, e2]; rfl
    refine ⟨w, ?_, by rw [← hz]; exact hown, ⟨rfl, rfl, rfl, Nat.le_refl _, fun _ _ _ => rfl⟩⟩
    subst h0
    exact run_copy_none (P := Try.prog) w _ _ _ 3 _ _ _ _ _ _ Try.underlying91 (by rw [hi0]; simp [hz1]) (by simp)
  · rcases hx.2 with ⟨e, hn⟩ | ⟨g2, cap, cur, e, hg, hh, hnc, hcm, hcs, ht⟩
    · omega
    · cases e
      refine run_copy_all (P := Try.prog) w 91 91 3 3 i0 1 Try.underlying91 hi0 hz1 B g _ _ g2 _ zs (ints xs) hown (fun j v hj => ownsRow_cell hx hj) (by rw [ints_length]; omega) (ints_one _)

set_option maxHeartbeats 400000 in
set_option maxRecDepth 100000 in
theorem deskLevel (d : Nat) (D : Dk) (i j : Nat) (w : World) (h : DeskAt F w d D) (hi : i < D.sks.length) (hj : j < (D.sks.getD i Hd.none).sk.lv.length) (hok : (D.sks.getD i Hd.none).Ok) :
    Calls Try.prog 43 #[.pointer (some ⟨d, 0, none⟩), .int .i64 (i : Int), .int .i64 (j : Int)] w fun e w' => e = .returned (.tuple #[.slice (some ⟨w.heap.size, 0, none⟩) ((D.sks.getD i Hd.none).sk.lv.getD j Lvl.none).items.length ((D.sks.getD i Hd.none).sk.lv.getD j Lvl.none).items.length, .int .i64 0]) ∧
      Ints w' (.slice (some ⟨w.heap.size, 0, none⟩) ((D.sks.getD i Hd.none).sk.lv.getD j Lvl.none).items.length ((D.sks.getD i Hd.none).sk.lv.getD j Lvl.none).items.length) ((D.sks.getD i Hd.none).sk.lv.getD j Lvl.none).items ∧ Below w.heap.size w w' := by
  obtain ⟨vt, vk, rs, h⟩ := h
  have hdz := lt_of_blk' h.blk
  obtain ⟨g, c, rfl, hg, q0, q1, q2, q3, q4⟩ := h.cells5 hi
  obtain ⟨_, _, c2, _⟩ := blk3 h.blk
  have HH := hid (has_any d (i : Int) _ _ _ _ c2)
  rw [hasB_nat hi] at HH
  have hlv := h.lv i hi
  have hits := hlv.its j hj
  have p0 := hlv.cell0 hj
  obtain ⟨ao, ci, ev, _⟩ := hits.form
  rw [ev] at p0 hits
  have hbd : ((D.sks.getD i Hd.none).sk.lv.getD j Lvl.none).items.length ≤ 268435456 := by have := nsum_at hj; have := nsum_le (D.sks.getD i Hd.none).sk.lv; have := hok.cnt; omega
  have hlz := hlv.lt
  generalize (D.sks.getD i Hd.none).sk = sk at *
  generalize rs.getD i Ref.none = r at *
  generalize (D.sks.getD i Hd.none).sealed = sl at *
  generalize D.sks.length = n at *
  generalize sk.lv.length = ln at *
  generalize (sk.lv.getD j Lvl.none).items = its at *
  have HI := hid hits
  generalize hm : its.length = m at *
  have HM := hid hm
  obtain ⟨i0, hi0, hz0, hz1, hz2⟩ := info_parts Try.infoInt
  clear h hok hlv hits ev hm
  go_enter Try.func43, Try.ntmps43
  go_wp2_with (first | (go_at_call 32; refine HH.out.mono ?_; rintro e w' ⟨rfl, hw⟩; obtain rfl := hw.symm) | (at_make; refine wpList_make_full _ rfl _ _ 91 rfl w.heap.size 3 i0 (.int .i64 0) 1 Try.underlying91 hi0 hz0 hz1 _ _ _ _ m rfl rfl (by rfl) (by rfl) (by rw [hz2]; omega) (by unfold maxLen; omega) (Nat.le_refl _) ?_; intro w1 hown1 hgrow1; have hb1 : Below w.heap.size w w1 := (Below.refl _ _).grown hgrow1 (Nat.le_refl _) (fun k h => by cases h); have p1 := cell_later hb1 p0; have HB1 := hid hb1; obtain ⟨w2, hrun, hown2, hgrow2⟩ := run_copy_ints w1 i0 hi0 hz1 hown1 (HI.out.below hb1) HM.out.symm; have HO2 := hid hown2; have HG2 := hid hgrow2; clear hown1 hgrow1 hb1 hown2 hgrow2))
  go_ret2
  refine ⟨rfl, ?_, HB1.out.grown HG2.out HB1.out.size (fun k h => by cases h; exact Nat.le_refl _)⟩
  exact Ints.of HO2.out

end Go.Proofs.Ytklicjbpjigfdab
