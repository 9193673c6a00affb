/- DERIVED. The walk of the statement's own sameInts, whatever it compares. -/
import Derived.Test.YtklicjbpjigfdabMv
namespace Go.Proofs.Ytklicjbpjigfdab
open Go.RowKit
attribute [local go_sem ↓] Go.wp_at_zero Go.wp_at_succ

set_option maxHeartbeats 1000000 in
set_option maxRecDepth 100000 in
theorem sameInts_gen (va vb : Value) (xs ys : List Int) (w : World) (ha : Ints w va xs) (hb : Ints w vb ys) (hl : xs.length ≤ 1099511627776) (hl2 : ys.length ≤ 1099511627776) :
    Calls Try.prog 38 #[va, vb] w fun e w' => (∃ b, e = .returned (.bool b)) ∧ Below w.heap.size w w' := by
  obtain ⟨ao, ca, rfl, _, _, hno, hso⟩ := ha.form
  obtain ⟨bo, cb, rfl, _, _, hno2, hso2⟩ := hb.form
  generalize hn : xs.length = n at *
  generalize hm : ys.length = m at *
  have HN := hid hn
  have HM := hid hm
  have HNO := hid hno
  have HSO := hid hso
  have HNO2 := hid hno2
  have HSO2 := hid hso2
  clear hn hm hno hso hno2 hso2 ha hb
  by_cases hnm : n = m
  · subst hnm
    have g0 : ((n : Int) != (n : Int)) = false := by simp
    go_enter Try.func38, Try.ntmps38
    go_wp2_with fail
    go_loopw [5] (fun s wr => ∃ k q : Nat, k ≤ n ∧ s = .int .i64 k ∧ wr = w.drewN q) (fun s _ => n - (intOf s).toNat)
    case atStart => exact ⟨0, 0, Nat.zero_le _, rfl, rfl⟩
    case round =>
      obtain ⟨k, q, hk, rfl, rfl⟩ := hrel
      by_cases hkn : k < n
      · obtain ⟨gc, rfl⟩ : ∃ g, ao = some ⟨g, 0, none⟩ := by
          cases ao with
          | none => have h9 := (HNO.out rfl).1; have h8 := HN.out; rw [h9] at h8; simp at h8; omega
          | some a => obtain ⟨g, rfl, _⟩ := HSO.out a rfl; exact ⟨g, rfl⟩
        obtain ⟨gc', e1, hgc, hcc⟩ := HSO.out _ rfl
        cases e1
        obtain ⟨gd, rfl⟩ : ∃ g, bo = some ⟨g, 0, none⟩ := by
          cases bo with
          | none => have h9 := (HNO2.out rfl).1; have h8 := HM.out; rw [h9] at h8; simp at h8; omega
          | some a => obtain ⟨g, rfl, _⟩ := HSO2.out a rfl; exact ⟨g, rfl⟩
        obtain ⟨gd', e2, hgd, hcd⟩ := HSO2.out _ rfl
        cases e2
        have hcell := hcc k hkn
        have hcell2 := hcd k hkn
        have hs1 : (0 : Int) ≤ (k : Int) := by omega
        have hs2 : (k : Int) < (n : Int) := by omega
        generalize xs.getD k 0 = x at *
        generalize ys.getD k 0 = y at *
        clear hcc hcd
        by_cases hxy : x = y
        · have hy : (x != y) = false := by simpa using hxy
          go_wp2_with fail
          go_quiet (fail)
          go_wp2_with fail
          go_roundw
          case rel => exact ⟨k + 1, q + nq, by omega, by go_num, rfl⟩
          case measure => simp [intOf]; omega
        · have hy : (x != y) = true := by simpa using hxy
          go_wp2_with fail
          go_quiet (fail)
          go_wp2_with fail
          go_ret
          exact ⟨⟨_, rfl⟩, by rw [show ∀ a b, (w.drewN a).drewN b = w.drewN (a + b) from fun a b => by simp [World.drewN, Nat.add_assoc]]; exact below_drewN (Below.refl _ _) _⟩
      · go_wp2_with fail
        go_ret
        exact ⟨⟨_, rfl⟩, below_drewN (Below.refl _ _) _⟩
  · have g0 : ((n : Int) != (m : Int)) = true := by simp; omega
    go_enter Try.func38, Try.ntmps38
    go_wp2_with fail
    go_ret
    exact ⟨⟨_, rfl⟩, Below.refl _ _⟩

end Go.Proofs.Ytklicjbpjigfdab
