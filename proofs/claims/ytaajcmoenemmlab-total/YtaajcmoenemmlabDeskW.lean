/- DERIVED. The walks of the desk that only read: has, Left, Size, Ends, Level, Ledger; and New. -/
import Derived.Test.YtaajcmoenemmlabDeskP
import Derived.Deep.QuietTactic
import Derived.BigQuiet
import Derived.WalkSmall
namespace Go.Proofs.Ytaajcmoenemmlab
open Go.RowKit
variable {F : Nat → Prop}

/-- Is there a sketch s? -/
def hasB (s : Int) (n : Nat) : Bool := decide (0 ≤ s ∧ s < (n : Int))

set_option maxHeartbeats 400000 in
theorem has_any (d : Nat) (s : Int) (n c : Nat) (ao : Option Addr) (w : World) (h : w.cell? ⟨d, 2, none⟩ = some (.slice ao n c)) :
    Calls Try.prog 22 #[.pointer (some ⟨d, 0, none⟩), .int .i64 s] w fun e w' => e = .returned (.bool (hasB s n)) ∧ w' = w := by
  by_cases h0 : 0 ≤ s
  · by_cases h1 : s < (n : Int)
    · have HB : Hid (hasB s n = true) := by simp [Hid, hasB, h0, h1]
      go_enter Try.func22, Try.ntmps22
      go_wp2
      go_ret
      exact ⟨by rw [HB.out]; simp, rfl⟩
    · have HB : Hid (hasB s n = false) := by simp [Hid, hasB, h0, h1]
      go_enter Try.func22, Try.ntmps22
      go_wp2
      go_ret
      exact ⟨by rw [HB.out]; simp, rfl⟩
  · have HB : Hid (hasB s n = false) := by simp [Hid, hasB, h0]
    have h0' : decide (0 ≤ s) = false := by simpa using h0
    go_enter Try.func22, Try.ntmps22
    go_wp2
    go_ret
    exact ⟨by rw [HB.out]; rfl, rfl⟩

set_option maxHeartbeats 400000 in
theorem left_any (d n c : Nat) (ao : Option Addr) (w : World) (h : w.cell? ⟨d, 1, none⟩ = some (.slice ao n c)) :
    Calls Try.prog 68 #[.pointer (some ⟨d, 0, none⟩)] w fun e w' => e = .returned (.int .i64 (n : Int)) ∧ w' = w := by
  go_enter Try.func68, Try.ntmps68
  go_wp2_with (go_at_call 84; refine (tapeLeft_any _ _ _ _ _ h).mono ?_; rintro e w' ⟨rfl, rfl⟩)
  go_ret
  exact ⟨rfl, rfl⟩

theorem deskLeft (d : Nat) (D : Dk) (w : World) (h : DeskAt F w d D) :
    Calls Try.prog 68 #[.pointer (some ⟨d, 0, none⟩)] w fun e w' => e = .returned (.int .i64 (D.tape.length : Int)) ∧ w' = w := by
  obtain ⟨vt, vk, rs, h⟩ := h
  obtain ⟨ao, c, rfl⟩ := h.vtForm
  obtain ⟨_, c1, _, _⟩ := blk3 h.blk
  exact left_any d _ _ _ w c1

/-- The five cells of sketch i. -/
theorem DeskIn.cells5 {w : World} {d : Nat} {D : Dk} {vt vk : Value} {rs : List Ref} (h : DeskIn F w d D vt vk rs) {i : Nat} (hi : i < D.sks.length) :
    ∃ g c, vk = .slice (some ⟨g, 0, none⟩) D.sks.length c ∧ g < w.heap.size ∧ w.cell? ⟨g, i * 5, none⟩ = some (.int .i64 ((D.sks.getD i Hd.none).sk.k : Int)) ∧
      w.cell? ⟨g, i * 5 + 1, none⟩ = some (.slice (some ⟨(rs.getD i Ref.none).g, 0, none⟩) (D.sks.getD i Hd.none).sk.lv.length (rs.getD i Ref.none).cap) ∧
      w.cell? ⟨g, i * 5 + 2, none⟩ = some (.int .i64 (D.sks.getD i Hd.none).sk.lo) ∧ w.cell? ⟨g, i * 5 + 3, none⟩ = some (.int .i64 (D.sks.getD i Hd.none).sk.hi) ∧
      w.cell? ⟨g, i * 5 + 4, none⟩ = some (.bool (D.sks.getD i Hd.none).sealed) := by
  obtain ⟨ao, c, e, hc⟩ := h.vkForm
  obtain ⟨g, rfl, hg, hcc⟩ := hc i hi
  exact ⟨g, c, e, hg, hcc 0 (by omega) _ rfl, hcc 1 (by omega) _ rfl, hcc 2 (by omega) _ rfl, hcc 3 (by omega) _ rfl, hcc 4 (by omega) _ rfl⟩

set_option maxHeartbeats 400000 in
set_option maxRecDepth 100000 in
theorem deskSize_no (d : Nat) (D : Dk) (s : Int) (w : World) (h : DeskAt F w d D) (hs : hasB s D.sks.length = false) :
    Calls Try.prog 32 #[.pointer (some ⟨d, 0, none⟩), .int .i64 s] w fun e w' => e = .returned (.tuple #[.agg #[.int .i64 0, .int .i64 0, .int .i64 0, .int .i64 0], .int .i64 4]) ∧ Below w.heap.size w w' := by
  obtain ⟨vt, vk, rs, h⟩ := h
  obtain ⟨ao, c, rfl, _⟩ := h.vkForm
  obtain ⟨_, _, c2, _⟩ := blk3 h.blk
  have hdz := lt_of_blk' h.blk
  have c2' : (w.alloc (.cells #[.int .i64 0, .int .i64 0, .int .i64 0, .int .i64 0] 77)).cell? ⟨d, 2, none⟩ = some (.slice ao D.sks.length c) := by rw [World.cell?_alloc_lt (h := hdz)]; exact c2
  have HH := hid (has_any d s _ _ _ _ c2')
  rw [hs] at HH
  clear h
  go_enter Try.func32, Try.ntmps32
  go_wp2_with (go_at_call 22; refine HH.out.mono ?_; rintro e w' ⟨rfl, rfl⟩)
  exact bodyPost_ret (v := .tuple #[.agg #[.int .i64 0, .int .i64 0, .int .i64 0, .int .i64 0], .int .i64 4]) (by simp [results, Try.results32, go_sem]) rfl ⟨rfl, (Below.refl _ _).alloc (Nat.le_refl _) _⟩

theorem hasB_nat {i n : Nat} (h : i < n) : hasB (i : Int) n = true := by simp [hasB, h]
/-- What the program asks of a sketch that it tells of. -/
structure Hd.Ok (h : Hd) : Prop where
  k1 : 2 ≤ h.sk.k
  k2 : h.sk.k ≤ 64
  len1 : 1 ≤ h.sk.lv.length
  len : h.sk.lv.length ≤ 29
  cnt : wsum h.sk.lv ≤ 268435456
  tms : ∀ j, (h.sk.lv.getD j Lvl.none).times ≤ 549755813888
def Dk.Ok (D : Dk) : Prop := ∀ i, i < D.sks.length → (D.sks.getD i Hd.none).Ok

set_option maxHeartbeats 400000 in
set_option maxRecDepth 100000 in
theorem deskSize (d : Nat) (D : Dk) (i : Nat) (w : World) (h : DeskAt F w d D) (hi : i < D.sks.length) (hok : (D.sks.getD i Hd.none).Ok) :
    Calls Try.prog 32 #[.pointer (some ⟨d, 0, none⟩), .int .i64 (i : Int)] w fun e w' => e = .returned (.tuple #[.agg #[.int .i64 ((D.sks.getD i Hd.none).sk.k : Int), .int .i64 (wsum (D.sks.getD i Hd.none).sk.lv : Int), .int .i64 (nsum (D.sks.getD i Hd.none).sk.lv : Int), .int .i64 ((D.sks.getD i Hd.none).sk.lv.length : Int)], .int .i64 0]) ∧ Below w.heap.size w w' := by
  obtain ⟨vt, vk, rs, h⟩ := h
  have hdz := lt_of_blk' h.blk
  have hA := h.below ((Below.refl w.heap.size w).alloc (Nat.le_refl _) (.cells #[.int .i64 0, .int .i64 0, .int .i64 0, .int .i64 0] 77))
  obtain ⟨g, c, rfl, hg, q0, q1, q2, q3, q4⟩ := hA.cells5 hi
  obtain ⟨_, _, c2, _⟩ := blk3 hA.blk
  have HH := hid (has_any d (i : Int) _ _ _ _ c2)
  rw [hasB_nat hi] at HH
  have HL := hid (size_any (D.sks.getD i Hd.none).sk.k _ _ (D.sks.getD i Hd.none).sk.lo (D.sks.getD i Hd.none).sk.hi _ _ _ (hA.lv i hi) (by have := hok.len; omega) (by have := hok.cnt; omega))
  generalize (D.sks.getD i Hd.none).sk = sk at *
  generalize rs.getD i Ref.none = r at *
  generalize (D.sks.getD i Hd.none).sealed = sl at *
  have hwz : w.heap.size < (w.alloc (.cells #[.int .i64 0, .int .i64 0, .int .i64 0, .int .i64 0] 77)).heap.size := by simp
  generalize D.sks.length = n at *
  have hblk := heap_alloc_new w (.cells #[.int .i64 0, .int .i64 0, .int .i64 0, .int .i64 0] 77 (0, 0))
  have HBL := hid hblk
  clear hA h hok hblk
  go_enter Try.func32, Try.ntmps32
  go_wp2_with (first | (go_at_call 22; refine HH.out.mono ?_; rintro e w' ⟨rfl, rfl⟩) | (go_at_call 55; refine HL.out.mono ?_; rintro e w1 ⟨rfl, hb1⟩; have hk := (hb1.block _ hwz).trans HBL.out; obtain ⟨e0, e1, e2, e3, ez⟩ := blk4 hk; have HB1 := hid hb1; clear hb1 hk))
  exact bodyPost_ret (v := .tuple #[.agg #[.int .i64 (sk.k : Int), .int .i64 (wsum sk.lv : Int), .int .i64 (nsum sk.lv : Int), .int .i64 (sk.lv.length : Int)], .int .i64 0]) (by simp [results, Try.results32, go_sem, e0, e1, e2, e3]) rfl ⟨rfl, below_set4 (((Below.refl _ _).alloc (Nat.le_refl _) _).trans (HB1.out.mono (by simp))) (Nat.le_refl _) _ _ _ _⟩

end Go.Proofs.Ytaajcmoenemmlab
