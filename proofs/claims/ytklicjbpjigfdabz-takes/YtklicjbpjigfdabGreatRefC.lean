/- DERIVED. The walks of the document's own place and sorted. -/
import Derived.Test.YtklicjbpjigfdabGreatQ7
import Derived.Deep.Cut
import Derived.Deep.CutRange
namespace Go.Proofs.YtklicjbpjigfdabGreat
open Go.RowKit
attribute [local go_sem ↓] Go.wp_at_zero Go.wp_at_succ

/-- The place, as far as it is counted. -/
def placeN (bag : List (Int × Nat)) (i : Nat) (x : Int × Nat) (t : Nat) : Nat := (bag.zipIdx.take t).countP fun a => ahead a (x, i)
theorem placeN_zero (bag : List (Int × Nat)) (i : Nat) (x : Int × Nat) : placeN bag i x 0 = 0 := by simp [placeN]
theorem placeN_all {bag : List (Int × Nat)} {i : Nat} {x : Int × Nat} {t : Nat} (h : bag.length ≤ t) : placeN bag i x t = placeB bag i x := by
  unfold placeN placeB
  rw [List.take_of_length_le (by simpa using h)]
theorem placeN_step {bag : List (Int × Nat)} {i : Nat} {x : Int × Nat} {t : Nat} (h : t < bag.length) : placeN bag i x (t + 1) = placeN bag i x t + (if ahead (bag.getD t (0, 0), t) (x, i) = true then 1 else 0) := by
  have hz : t < bag.zipIdx.length := by simpa using h
  unfold placeN
  rw [List.take_succ_eq_append_getElem hz, List.countP_append]
  congr 1
  have e : bag.zipIdx[t] = (bag.getD t (0, 0), t) := by simp [List.getD, h]
  rw [e]
  simp [List.countP_cons]
theorem placeN_le (bag : List (Int × Nat)) (i : Nat) (x : Int × Nat) (t : Nat) : placeN bag i x t ≤ t := by
  unfold placeN
  refine Nat.le_trans List.countP_le_length ?_
  rw [List.length_take]; omega

set_option maxHeartbeats 2000000 in
theorem rplace_any (i : Nat) (vb : Value) (bag : List (Int × Nat)) (w : World) (hB : BagAt w vb bag) (hi : i < bag.length) (hl : bag.length ≤ 100000) :
    Calls Tryz.prog 99 #[vb, .int .i64 (i : Int)] w fun e w' => e = .returned (.int .i64 (placeB bag i (bag.getD i (0, 0)) : Int)) ∧ Below w.heap.size w w' := by
  obtain ⟨bo, bcap, rfl, _, _⟩ := hB.form
  obtain ⟨g, rfl, hg, hx, hh⟩ := hB.cells hi
  have HB := hid hB
  have HPA := hid (placeN_all (bag := bag) (i := i) (x := bag.getD i (0, 0)) (Nat.le_refl _))
  have HPS := hid (fun t ht => placeN_step (bag := bag) (i := i) (x := bag.getD i (0, 0)) (t := t) ht)
  have HPL := hid (placeN_le bag i (bag.getD i (0, 0)))
  have HPZ := hid (placeN_zero bag i (bag.getD i (0, 0)))
  generalize bag.getD i (0, 0) = z at *
  obtain ⟨zx, zh⟩ := z
  simp only at hx hh
  generalize hne : bag.length = n at *
  have HN := hid hne
  have hs1 : (0 : Int) ≤ (i : Int) := by omega
  have hs2 : (i : Int) < (n : Int) := by omega
  clear hB hne
  go_enter Tryz.func99, Tryz.ntmps99
  go_wp2_with fail
  go_loopw [5, 6] (fun st si wr => ∃ (j c q : Nat), j ≤ n ∧ c ≤ j ∧ si = .int .i64 j ∧ st = .int .i64 (c : Int) ∧ Hid (c = placeN bag i (zx, zh) j) ∧ wr = w.drewN q) (fun _ si _ => n - (intOf si).toNat)
  case atStart => exact ⟨0, 0, 0, Nat.zero_le _, Nat.le_refl _, rfl, rfl, HPZ.out.symm, rfl⟩
  case round =>
    obtain ⟨j, c, q, hj, hcj, rfl, rfl, Hc, rfl⟩ := hrel
    by_cases hlt : j < n
    · have hlt' : j < bag.length := by rw [HN.out]; exact hlt
      obtain ⟨g', e1, _, hx2, hh2⟩ := HB.out.cells hlt'
      cases e1
      have HS := hid (HPS.out j hlt)
      generalize bag.getD j (0, 0) = y at *
      obtain ⟨yx, yh⟩ := y
      simp only at hx2 hh2
      have ht1 : (0 : Int) ≤ (j : Int) := by omega
      have ht2 : (j : Int) < (n : Int) := by omega
      have HAH : Hid (ahead ((yx, yh), j) ((zx, zh), i) = (yh == zh && (decide (yx < zx) || (yx == zx && decide (j < i))))) := rfl
      by_cases h1 : yh = zh
      · have h1' : ((yh : Int) == (zh : Int)) = true := by simp [h1]
        have h1n : (yh == zh) = true := by simp [h1]
        by_cases h2 : yx < zx
        · have h2' : decide (yx < zx) = true := by simp [h2]
          have HF : Hid (placeN bag i (zx, zh) (j + 1) = c + 1) := by rw [Hid, HS.out, HAH.out, h1n, h2', Hc.out]; rfl
          go_wp2_with fail
          go_quiet (fail)
          go_wp2_with fail
          go_roundw
          case rel => exact ⟨j + 1, c + 1, q + nq, by omega, by omega, by go_num, by go_num, HF.out.symm, rfl⟩
          case measure => simp [intOf]; omega
        · have h2' : decide (yx < zx) = false := by simp [h2]
          by_cases h3 : yx = zx
          · have h3' : (yx == zx) = true := by simp [h3]
            by_cases h4 : j < i
            · have h4' : decide ((j : Int) < (i : Int)) = true := by simp; omega
              have h4n : decide (j < i) = true := by simp [h4]
              have HF : Hid (placeN bag i (zx, zh) (j + 1) = c + 1) := by rw [Hid, HS.out, HAH.out, h1n, h2', h3', h4n, Hc.out]; rfl
              go_wp2_with fail
              go_quiet (fail)
              go_wp2_with fail
              go_roundw
              case rel => exact ⟨j + 1, c + 1, q + nq, by omega, by omega, by go_num, by go_num, HF.out.symm, rfl⟩
              case measure => simp [intOf]; omega
            · have h4' : decide ((j : Int) < (i : Int)) = false := by simp; omega
              have h4n : decide (j < i) = false := by simp; omega
              have HF : Hid (placeN bag i (zx, zh) (j + 1) = c) := by rw [Hid, HS.out, HAH.out, h1n, h2', h3', h4n, Hc.out]; rfl
              go_wp2_with fail
              go_quiet (fail)
              go_wp2_with fail
              go_roundw
              case rel => exact ⟨j + 1, c, q + nq, by omega, by omega, by go_num, rfl, HF.out.symm, rfl⟩
              case measure => simp [intOf]; omega
          · have h3' : (yx == zx) = false := by simp [h3]
            have HF : Hid (placeN bag i (zx, zh) (j + 1) = c) := by rw [Hid, HS.out, HAH.out, h1n, h2', h3', Hc.out]; rfl
            go_wp2_with fail
            go_quiet (fail)
            go_wp2_with fail
            go_roundw
            case rel => exact ⟨j + 1, c, q + nq, by omega, by omega, by go_num, rfl, HF.out.symm, rfl⟩
            case measure => simp [intOf]; omega
      · have h1' : ((yh : Int) == (zh : Int)) = false := by simp; omega
        have h1n : (yh == zh) = false := by simp [h1]
        have HF : Hid (placeN bag i (zx, zh) (j + 1) = c) := by rw [Hid, HS.out, HAH.out, h1n, Hc.out]; rfl
        go_wp2_with fail
        go_quiet (fail)
        go_wp2_with fail
        go_roundw
        case rel => exact ⟨j + 1, c, q + nq, by omega, by omega, by go_num, rfl, HF.out.symm, rfl⟩
        case measure => simp [intOf]; omega
    · obtain rfl : n = j := by omega
      go_wp2_with fail
      go_ret
      exact ⟨ret_int (by rw [← HPA.out, ← Hc.out]), below_drewN (Below.refl _ _) _⟩

end Go.Proofs.YtklicjbpjigfdabGreat
