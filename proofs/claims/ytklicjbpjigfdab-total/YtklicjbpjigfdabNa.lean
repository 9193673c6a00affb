/- DERIVED. The walks of small functions of the statement's text: pick, power, weight, clean. -/
import Derived.Test.YtklicjbpjigfdabWdP
namespace Go.Proofs.Ytklicjbpjigfdab
open Go.RowKit

/-- Which of n things the raw number speaks of. -/
def pickN (c : Int) (n : Nat) : Nat := ((if c < 0 then -(c + 1) else c) % (n : Int)).toNat
theorem pickN_lt (c : Int) {n : Nat} (h : 0 < n) : pickN c n < n := by
  unfold pickN
  have h1 := Int.emod_lt_of_pos (if c < 0 then -(c + 1) else c) (show (0 : Int) < (n : Int) by omega)
  have h2 := Int.emod_nonneg (if c < 0 then -(c + 1) else c) (show (n : Int) ≠ 0 by omega)
  omega
theorem pickN_cast (c : Int) {n : Nat} (h : 0 < n) : (pickN c n : Int) = (if c < 0 then -(c + 1) else c) % (n : Int) := by
  unfold pickN
  exact Int.toNat_of_nonneg (Int.emod_nonneg _ (by omega))

set_option maxHeartbeats 400000 in
theorem pick_any (c : Int) (n : Nat) (w : World) (h1 : -9223372036854775808 ≤ c) (h2 : c ≤ 9223372036854775807) (hn1 : 1 ≤ n) (hn2 : n ≤ 1099511627776) :
    Calls Try.prog 9 #[.int .i64 c, .int .i64 (n : Int)] w fun e w' => e = .returned (.int .i64 (pickN c n : Int)) ∧ w' = w := by
  have HP := hid (pickN_cast c (n := n) (by omega))
  by_cases h0 : c < 0
  · rw [if_pos h0] at HP
    go_enter Try.func9, Try.ntmps9
    go_wp2
    go_ret
    exact ⟨ret_int (by rw [HP.out, ← Int.neg_tmod, Int.tmod_eq_emod_of_nonneg (by omega)]), rfl⟩
  · rw [if_neg h0] at HP
    go_enter Try.func9, Try.ntmps9
    go_wp2
    go_ret
    exact ⟨ret_int (by rw [HP.out]), rfl⟩

set_option maxHeartbeats 400000 in
theorem power_any (h : Nat) (w : World) (hh : h ≤ 30) :
    Calls Try.prog 45 #[.int .i64 (h : Int)] w fun e w' => e = .returned (.int .i64 ((2 ^ h : Nat) : Int)) ∧ w' = w := by
  go_enter Try.func45, Try.ntmps45
  go_wp2
  go_loop [3, 4] (fun a i => ∃ j : Nat, j ≤ h ∧ i = .int .i64 j ∧ a = .int .i64 ((2 ^ j : Nat) : Int)) (fun _ i => h - (intOf i).toNat)
  case atStart => exact ⟨0, Nat.zero_le _, rfl, rfl⟩
  case round =>
    obtain ⟨j, hj, rfl, rfl⟩ := hrel
    have b2 := pow2_bd (j := j) (by omega)
    by_cases hlt : j < h
    · have HS2 : Hid ((2 ^ (j + 1) : Nat) = 2 ^ j * 2) := Nat.pow_succ ..
      generalize 2 ^ j = p2 at *
      go_wp2
      go_round
      case rel => exact ⟨j + 1, by omega, by go_num, by rw [HS2.out]; go_num⟩
      case measure => simp [intOf]; omega
    · have : j = h := by omega
      subst this
      go_wp2
      go_ret
      exact ⟨rfl, rfl⟩

def weightN (c : Int) : Nat := 1 + pickN c 268435456
set_option maxHeartbeats 400000 in
theorem weight_any (c : Int) (w : World) (h1 : -9223372036854775808 ≤ c) (h2 : c ≤ 9223372036854775807) :
    Calls Try.prog 40 #[.int .i64 c] w fun e w' => e = .returned (.int .i64 (weightN c : Int)) ∧ w' = w := by
  have HP := hid (pick_any c 268435456 w h1 h2 (by omega) (by omega))
  have hl := pickN_lt c (n := 268435456) (by omega)
  have HW : Hid (weightN c = 1 + pickN c 268435456) := rfl
  generalize pickN c 268435456 = q at *
  go_enter Try.func40, Try.ntmps40
  go_wp2_with (go_at_call 9; refine HP.out.mono ?_; rintro e w' ⟨rfl, hw⟩; obtain rfl := hw.symm)
  go_ret
  exact ⟨ret_int (by rw [HW.out]; go_num), rfl⟩

set_option maxHeartbeats 400000 in
theorem clean_any {K : Nat → Prop} {w0 : World} (p d m : Nat) (ps : Nat → Nat) (W : Wd) (w : World) (h : WdSt K w0 w p d m ps W) :
    Calls Try.prog 72 #[.pointer (some ⟨p, 0, none⟩)] w fun e w' => e = .returned (.bool (decide (W.D.tape.length = 0))) ∧ w' = w := by
  obtain ⟨own, vs, vx, vw, h, _⟩ := h
  obtain ⟨c0, _⟩ := blk7 h.blk
  have HL := hid (deskLeft d W.D w h.desk)
  generalize W.D.tape.length = tl at *
  clear h
  go_enter Try.func72, Try.ntmps72
  go_wp2_with (go_at_call 64; refine HL.out.mono ?_; rintro e w' ⟨rfl, hw⟩; obtain rfl := hw.symm)
  go_ret
  refine ⟨?_, rfl⟩
  by_cases h0 : tl = 0
  · subst h0; rfl
  · have : ((tl : Int) == 0) = false := by simpa using h0
    simp [this, h0]

end Go.Proofs.Ytklicjbpjigfdab
