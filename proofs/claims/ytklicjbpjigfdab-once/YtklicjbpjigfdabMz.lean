/- DERIVED. The walk of capacityOf: it returns capOf of its arguments, and changes nothing. -/
import Derived.Test.YtklicjbpjigfdabProg
import Derived.Test.YtklicjbpjigfdabNk
import Derived.Test.YtklicjbpjigfdabMem
import Derived.WalkKit
import Derived.WalkSpells
import Derived.WalkLawsBesides
import Derived.Test.YtklicjbpjigfdabSk
namespace Go.Proofs.Ytklicjbpjigfdab
open Go.RowKit



set_option maxHeartbeats 400000 in
theorem capacityOf_any (k d : Nat) (w : World) (hk : k ≤ 64) (hd : d ≤ 30) :
    Calls Try.prog 115 #[.int .i64 (k : Int), .int .i64 (d : Int)] w fun e w' => e = .returned (.int .i64 (capOf k d : Int)) ∧ w' = w := by
  go_enter Try.func115, Try.ntmps115
  go_wp2
  go_loop [5, 6, 7] (fun a b i => ∃ j : Nat, j ≤ d ∧ i = .int .i64 j ∧ a = .int .i64 ((2 ^ j : Nat) : Int) ∧ b = .int .i64 ((3 ^ j : Nat) : Int)) (fun _ _ i => d - (intOf i).toNat)
  case atStart => exact ⟨0, Nat.zero_le _, rfl, rfl, rfl⟩
  case round =>
    obtain ⟨j, hj, rfl, rfl, rfl⟩ := hrel
    have b2 := pow2_bd (j := j) (by omega)
    have b3 := pow3_bd (j := j) (by omega)
    by_cases hlt : j < d
    · have HS2 : Hid ((2 ^ (j + 1) : Nat) = 2 ^ j * 2) := Nat.pow_succ ..
      have HS3 : Hid ((3 ^ (j + 1) : Nat) = 3 ^ j * 3) := Nat.pow_succ ..
      generalize 2 ^ j = p2 at *
      generalize 3 ^ j = p3 at *
      go_wp2
      go_round
      case rel => exact ⟨j + 1, by omega, by go_num, by rw [HS2.out]; go_num, by rw [HS3.out]; go_num⟩
      case measure => simp [intOf]; omega
    · have : j = d := by omega
      subst this
      have HC : Hid (capOf k j = capFrom k (3 ^ j) (2 ^ j) k 2) := rfl
      generalize 2 ^ j = p2 at *
      generalize 3 ^ j = p3 at *
      go_wp2
      go_loop [8] (fun t => ∃ c f : Nat, c + f = k + 2 ∧ t = .int .i64 (c : Int) ∧ Hid (capOf k j = capFrom k p3 p2 f c)) (fun t => k - (intOf t).toNat)
      case atStart => exact ⟨2, k, by omega, rfl, HC⟩
      case round =>
        obtain ⟨c, f, hcf, rfl, hc⟩ := hrel
        have m1 : (c : Int) * (p3 : Int) ≤ 13588814718246834 := mul_bd (a := 66) (by omega) b3
        have m2 : (k : Int) * (p2 : Int) ≤ 68719476736 := mul_bd hk b2
        have m3 := mul_nn c p3
        have m4 := mul_nn k p2
        by_cases h1 : c < k
        · by_cases h2 : (c : Int) * (p3 : Int) < (k : Int) * (p2 : Int)
          · go_wp2
            go_round
            case rel =>
              obtain ⟨f', rfl⟩ : ∃ f', f = f' + 1 := ⟨f - 1, by omega⟩
              refine ⟨c + 1, f', by omega, by go_num, ?_⟩
              have h2' : c * p3 < k * p2 := mul_lt_cast.1 h2
              exact hc.out.trans (capFrom_step ⟨h1, h2'⟩)
            case measure => simp [intOf]; omega
          · have HF : Hid (capOf k j = c) := hc.out.trans (capFrom_stop (fun h => h2 (mul_lt_cast.2 h.2)))
            go_wp2
            go_ret
            exact ⟨ret_int (by rw [HF.out]), rfl⟩
        · have HF : Hid (capOf k j = c) := hc.out.trans (capFrom_stop (fun h => h1 h.1))
          go_wp2
          go_ret
          exact ⟨ret_int (by rw [HF.out]), rfl⟩

end Go.Proofs.Ytklicjbpjigfdab

/- DERIVED. The walk of holds: it returns the capacity, and changes nothing. -/
namespace Go.Proofs.Ytklicjbpjigfdab
open Go.RowKit

set_option maxHeartbeats 400000 in
theorem holds_any (k d : Nat) (w : World) (hk2 : 2 ≤ k) (hk : k ≤ 64) (hd : d ≤ 30) :
    Calls Try.prog 52 #[.int .i64 (k : Int), .int .i64 (d : Int)] w fun e w' => e = .returned (.int .i64 (capOf k d : Int)) ∧ w' = w := by
  go_enter Try.func52, Try.ntmps52
  go_wp2
  go_loop [5, 6, 7] (fun a b i => ∃ j : Nat, j ≤ d ∧ i = .int .i64 j ∧ a = .int .i64 ((2 ^ j : Nat) : Int) ∧ b = .int .i64 ((3 ^ j : Nat) : Int)) (fun _ _ i => d - (intOf i).toNat)
  case atStart => exact ⟨0, Nat.zero_le _, rfl, rfl, rfl⟩
  case round =>
    obtain ⟨j, hj, rfl, rfl, rfl⟩ := hrel
    have b2 := pow2_bd (j := j) (by omega)
    have b3 := pow3_bd (j := j) (by omega)
    by_cases hlt : j < d
    · have HS2 : Hid ((2 ^ (j + 1) : Nat) = 2 * 2 ^ j) := by rw [Nat.pow_succ, Nat.mul_comm]; exact rfl
      have HS3 : Hid ((3 ^ (j + 1) : Nat) = 3 * 3 ^ j) := by rw [Nat.pow_succ, Nat.mul_comm]; exact rfl
      generalize 2 ^ j = p2 at *
      generalize 3 ^ j = p3 at *
      go_wp2
      go_round
      case rel => exact ⟨j + 1, by omega, by go_num, by rw [HS2.out]; go_num, by rw [HS3.out]; go_num⟩
      case measure => simp [intOf]; omega
    · have : j = d := by omega
      subst this
      have HC : Hid (capOf k j = capFrom k (3 ^ j) (2 ^ j) k 2) := rfl
      generalize 2 ^ j = p2 at *
      generalize 3 ^ j = p3 at *
      go_wp2
      go_loop [8] (fun t => ∃ c f : Nat, c + f = k + 2 ∧ c ≤ k ∧ t = .int .i64 (c : Int) ∧ Hid (capOf k j = capFrom k p3 p2 f c)) (fun t => k - (intOf t).toNat)
      case atStart => exact ⟨2, k, by omega, hk2, rfl, HC⟩
      case round =>
        obtain ⟨c, f, hcf, hck, rfl, hc⟩ := hrel
        have m1 : (c : Int) * (p3 : Int) ≤ 13588814718246834 := mul_bd (a := 66) (by omega) b3
        have m2 : (k : Int) * (p2 : Int) ≤ 68719476736 := mul_bd hk b2
        have m3 := mul_nn c p3
        have m4 := mul_nn k p2
        by_cases h1 : c < k
        · by_cases h2 : (c : Int) * (p3 : Int) < (k : Int) * (p2 : Int)
          · go_wp2
            go_round
            case rel =>
              obtain ⟨f', rfl⟩ : ∃ f', f = f' + 1 := ⟨f - 1, by omega⟩
              refine ⟨c + 1, f', by omega, by omega, by go_num, ?_⟩
              have h2' : c * p3 < k * p2 := mul_lt_cast.1 h2
              exact hc.out.trans (capFrom_step ⟨h1, h2'⟩)
            case measure => simp [intOf]; omega
          · have HF : Hid (capOf k j = c) := hc.out.trans (capFrom_stop (fun h => h2 (mul_lt_cast.2 h.2)))
            go_wp2
            go_ret
            exact ⟨ret_int (by rw [HF.out]), rfl⟩
        · have HF : Hid (capOf k j = k) := (hc.out.trans (capFrom_stop (fun h => h1 h.1))).trans (by omega)
          go_wp2
          go_ret
          exact ⟨ret_int (by rw [HF.out]), rfl⟩

end Go.Proofs.Ytklicjbpjigfdab
