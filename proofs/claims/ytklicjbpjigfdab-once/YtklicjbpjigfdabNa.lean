/- DERIVED. The walks of small functions of the statement's text: pick, power, weight, clean. -/
import Derived.Test.YtklicjbpjigfdabWdP
import Derived.Deep.QuietTactic
import Derived.BigQuiet
import Derived.BigRegion
namespace Go.Proofs.Ytklicjbpjigfdab
open Go.RowKit

/-- Which of n things the raw number speaks of. -/
def pickN (c : Int) (n : Nat) : Nat := ((if c < 0 then -(c + 1) else c) % (n : Int)).toNat
theorem pickN_lt (c : Int) {n : Nat} (h : 0 < n) : pickN c n < n := by
  unfold pickN
  have h1 := Int.emod_lt_of_pos (if c < 0 then -(c + 1) else c) (show (0 : Int) < (n : Int) by omega)
  have h2 := Int.emod_nonneg (if c < 0 then -(c + 1) else c) (show (n : Int) ≠ 0 by omega)
  omega
theorem pickN_cast (c : Int) {n : Nat} (h : 0 < n) : (pickN c n : Int) = (if c < 0 then -(c + 1) else c) % (n : Int) := by
  unfold pickN
  exact Int.toNat_of_nonneg (Int.emod_nonneg _ (by omega))

set_option maxHeartbeats 400000 in
theorem pick_any (c : Int) (n : Nat) (w : World) (h1 : -9223372036854775808 ≤ c) (h2 : c ≤ 9223372036854775807) (hn1 : 1 ≤ n) (hn2 : n ≤ 1099511627776) :
    Calls Try.prog 9 #[.int .i64 c, .int .i64 (n : Int)] w fun e w' => e = .returned (.int .i64 (pickN c n : Int)) ∧ w' = w := by
  have HP := hid (pickN_cast c (n := n) (by omega))
  by_cases h0 : c < 0
  · rw [if_pos h0] at HP
    go_enter Try.func9, Try.ntmps9
    go_wp2
    go_ret
    exact ⟨ret_int (by rw [HP.out, ← Int.neg_tmod, Int.tmod_eq_emod_of_nonneg (by omega)]), rfl⟩
  · rw [if_neg h0] at HP
    go_enter Try.func9, Try.ntmps9
    go_wp2
    go_ret
    exact ⟨ret_int (by rw [HP.out]), rfl⟩

set_option maxHeartbeats 400000 in
theorem power_any (h : Nat) (w : World) (hh : h ≤ 30) :
    Calls Try.prog 45 #[.int .i64 (h : Int)] w fun e w' => e = .returned (.int .i64 ((2 ^ h : Nat) : Int)) ∧ w' = w := by
  go_enter Try.func45, Try.ntmps45
  go_wp2
  go_loop [3, 4] (fun a i => ∃ j : Nat, j ≤ h ∧ i = .int .i64 j ∧ a = .int .i64 ((2 ^ j : Nat) : Int)) (fun _ i => h - (intOf i).toNat)
  case atStart => exact ⟨0, Nat.zero_le _, rfl, rfl⟩
  case round =>
    obtain ⟨j, hj, rfl, rfl⟩ := hrel
    have b2 := pow2_bd (j := j) (by omega)
    by_cases hlt : j < h
    · have HS2 : Hid ((2 ^ (j + 1) : Nat) = 2 ^ j * 2) := Nat.pow_succ ..
      generalize 2 ^ j = p2 at *
      go_wp2
      go_round
      case rel => exact ⟨j + 1, by omega, by go_num, by rw [HS2.out]; go_num⟩
      case measure => simp [intOf]; omega
    · have : j = h := by omega
      subst this
      go_wp2
      go_ret
      exact ⟨rfl, rfl⟩

def weightN (c : Int) : Nat := 1 + pickN c 268435456
set_option maxHeartbeats 400000 in
theorem weight_any (c : Int) (w : World) (h1 : -9223372036854775808 ≤ c) (h2 : c ≤ 9223372036854775807) :
    Calls Try.prog 40 #[.int .i64 c] w fun e w' => e = .returned (.int .i64 (weightN c : Int)) ∧ w' = w := by
  have HP := hid (pick_any c 268435456 w h1 h2 (by omega) (by omega))
  have hl := pickN_lt c (n := 268435456) (by omega)
  have HW : Hid (weightN c = 1 + pickN c 268435456) := rfl
  generalize pickN c 268435456 = q at *
  go_enter Try.func40, Try.ntmps40
  go_wp2_with (go_at_call 9; refine HP.out.mono ?_; rintro e w' ⟨rfl, hw⟩; obtain rfl := hw.symm)
  go_ret
  exact ⟨ret_int (by rw [HW.out]; go_num), rfl⟩

set_option maxHeartbeats 400000 in
theorem clean_any {K : Nat → Prop} {w0 : World} (p d m : Nat) (ps : Nat → Nat) (W : Wd) (w : World) (h : WdSt K w0 w p d m ps W) :
    Calls Try.prog 72 #[.pointer (some ⟨p, 0, none⟩)] w fun e w' => e = .returned (.bool (decide (W.D.tape.length = 0))) ∧ w' = w := by
  obtain ⟨own, vs, vx, vw, h, _⟩ := h
  obtain ⟨c0, _⟩ := blk7 h.blk
  have HL := hid (deskLeft d W.D w h.desk)
  generalize W.D.tape.length = tl at *
  clear h
  go_enter Try.func72, Try.ntmps72
  go_wp2_with (go_at_call 64; refine HL.out.mono ?_; rintro e w' ⟨rfl, hw⟩; obtain rfl := hw.symm)
  go_ret
  refine ⟨?_, rfl⟩
  by_cases h0 : tl = 0
  · subst h0; rfl
  · have : ((tl : Int) == 0) = false := by simpa using h0
    simp [this, h0]

end Go.Proofs.Ytklicjbpjigfdab

/- DERIVED. The walks of coin and more: one coin more is laid on the tape. -/
namespace Go.Proofs.Ytklicjbpjigfdab
open Go.RowKit
variable {K : Nat → Prop} {w0 : World}

/-- The coin that comes next, and the place behind it. -/
def coinOf (c : ByteArray) (a : Nat) : Bool := if h : 0 < c.size then (((c[a % c.size]'(Nat.mod_lt _ h)).toNat : Int) % 2 == 1) else false
def atOf (c : ByteArray) (a : Nat) : Nat := if c.size = 0 then a else (a + 1) % c.size
/-- The first n coins from place a on, and the place behind them. -/
def ats (c : ByteArray) (a : Nat) : Nat → Nat
  | 0 => a
  | n + 1 => atOf c (ats c a n)
def drw (c : ByteArray) (a : Nat) : Nat → List Bool
  | 0 => []
  | n + 1 => drw c a n ++ [coinOf c (ats c a n)]
theorem drw_length (c : ByteArray) (a : Nat) : ∀ n, (drw c a n).length = n
  | 0 => rfl
  | n + 1 => by simp [drw, drw_length c a n]
/-- The coins cs are the next ones; a is the place behind them. -/
def DrawOk (W : Wd) (cs : List Bool) (a : Nat) : Prop := a ≤ 140737488355328 ∧ cs = drw W.coins W.at_ cs.length ∧ a = ats W.coins W.at_ cs.length
theorem DrawOk.snoc {W : Wd} {cs : List Bool} {a a2 : Nat} {b : Bool} (h : DrawOk W cs a) (h2 : a2 ≤ 140737488355328 ∧ b = coinOf W.coins a ∧ a2 = atOf W.coins a) : DrawOk W (cs ++ [b]) a2 := by
  obtain ⟨_, h3, h4⟩ := h
  obtain ⟨h5, h6, h7⟩ := h2
  refine ⟨h5, ?_, ?_⟩
  · rw [List.length_append, List.length_cons, List.length_nil, Nat.zero_add, drw, ← h3, ← h4, h6]
  · rw [List.length_append, List.length_cons, List.length_nil, Nat.zero_add, ats, ← h4, h7]

/-- A text of one coin. -/
def OneCoin (s : ByteArray) : Prop := s.size = 1 ∧ areCoins s.data.toList = true

theorem wd_set3 {w : World} {p d m : Nat} {own : Nat → Nat} {W : Wd} {ps : Nat → Nat} {vs : Value} {vx vw : Nat → Value} (h : WdAt own w p d m W ps vs vx vw) (h2K : ∀ b, K b → own b = 0 ∧ b < w0.heap.size) (hk : Keeps K w0 w) (a : Nat) : WdSt K w0 (w.setCell ⟨p, 3, none⟩ (.int .i64 (a : Int))) p d m ps { W with at_ := a } := by
  refine h.own (by rw [setCell_size]) (fun b hb => Below.heap_setCell _ _ _ _ hb) ?_ rfl rfl h2K hk rfl rfl rfl
  have := blk_set (i := 3) (.int .i64 (a : Int)) h.blk
  simpa using this
theorem wd_set4 {w : World} {p d m : Nat} {own : Nat → Nat} {W : Wd} {ps : Nat → Nat} {vs : Value} {vx vw : Nat → Value} (h : WdAt own w p d m W ps vs vx vw) (h2K : ∀ b, K b → own b = 0 ∧ b < w0.heap.size) (hk : Keeps K w0 w) (a : Nat) : WdSt K w0 (w.setCell ⟨p, 4, none⟩ (.int .i64 (a : Int))) p d m ps { W with used := a } := by
  refine h.own (by rw [setCell_size]) (fun b hb => Below.heap_setCell _ _ _ _ hb) ?_ rfl rfl h2K hk rfl rfl rfl
  have := blk_set (i := 4) (.int .i64 (a : Int)) h.blk
  simpa using this

set_option maxHeartbeats 1000000 in
set_option maxRecDepth 100000 in
theorem coin_any (p d m : Nat) (ps : Nat → Nat) (W : Wd) (w : World) (h : WdSt K w0 w p d m ps W) (hat : W.at_ ≤ 140737488355328) (hcs : W.coins.size ≤ 140737488355328) :
    Calls Try.prog 95 #[.pointer (some ⟨p, 0, none⟩)] w fun e w' => ∃ s a, e = .returned (.string s) ∧ OneCoin s ∧ (a ≤ 140737488355328 ∧ coinsOf s.data.toList = [coinOf W.coins W.at_] ∧ a = atOf W.coins W.at_) ∧ WdSt K w0 w' p d m ps { W with at_ := a } := by
  have HST := hid h
  obtain ⟨own, vs, vx, vw, h, h2K, hk⟩ := h
  obtain ⟨c0, c1, c2, c3, c4, c5, c6, cz⟩ := blk7 h.blk
  have HH := hid h
  have H2 := hid h2K
  have HK := hid hk
  clear h h2K hk
  by_cases h0 : W.coins.size = 0
  · have h0' : ((W.coins.size : Int) == 0) = true := by simp [h0]
    have H0 := hid h0
    clear h0
    go_enter Try.func95, Try.ntmps95
    go_wp2_with fail
    go_ret
    refine ⟨_, W.at_, rfl, ⟨rfl, rfl⟩, ⟨hat, ?_, ?_⟩, HST.out⟩
    · unfold coinOf; rw [dif_neg (by rw [H0.out]; omega)]; rfl
    · unfold atOf; rw [if_pos H0.out]
  · have h0' : ((W.coins.size : Int) == 0) = false := by simpa using h0
    have hn1 : 0 < W.coins.size := by omega
    have hm1 : W.at_ % W.coins.size < W.coins.size := Nat.mod_lt _ hn1
    have hm2 : (W.at_ + 1) % W.coins.size < W.coins.size := Nat.mod_lt _ hn1
    have hm3 : (W.at_ : Int) % (W.coins.size : Int) < (W.coins.size : Int) := by omega
    have hm4 : (0 : Int) ≤ (W.at_ : Int) % (W.coins.size : Int) := by omega
    have hz : (W.coins.size : Int) ≠ 0 := by omega
    go_enter Try.func95, Try.ntmps95
    go_wp2_with fail
    go_quiet (fail)
    go_wp2_with fail
    go_region
    go_wp2_with fail
    all_goals
      go_ret
      have hw := wd_set3 HH.out H2.out HK.out ((W.at_ + 1) % W.coins.size)
      rw [show (((W.at_ + 1) % W.coins.size : Nat) : Int) = ((W.at_ : Int) + 1) % (W.coins.size : Int) from by rw [Int.natCast_emod, Int.natCast_add]; rfl] at hw
      refine ⟨_, (W.at_ + 1) % W.coins.size, rfl, ⟨rfl, rfl⟩, ⟨by omega, ?_, ?_⟩, by first | exact hw.drewN.drew | exact hw.drew.drewN | exact hw.drewN⟩
      · have e9 : coinOf W.coins W.at_ = (((W.coins[W.at_ % W.coins.size]'hm1).toNat : Int) % 2 == 1) := by unfold coinOf; rw [dif_pos hn1]
        rw [e9]
        rename_i hbit
        rw [hbit]; rfl
      · unfold atOf; rw [if_neg h0]

theorem oneCoin_len {s : ByteArray} (h : OneCoin s) : (coinsOf s.data.toList).length = 1 := by
  have := h.1
  simp [coinsOf]
  exact this

set_option maxHeartbeats 1000000 in
set_option maxRecDepth 100000 in
theorem more_any (p d m : Nat) (ps : Nat → Nat) (W : Wd) (w : World) (h : WdSt K w0 w p d m ps W) (hat : W.at_ ≤ 140737488355328) (hcs : W.coins.size ≤ 140737488355328) (hmost : W.most = -1) (hus : W.used ≤ 1152921504606846976) (htp : W.D.tape.length < 1024) :
    Calls Try.prog 73 #[.pointer (some ⟨p, 0, none⟩)] w fun e w' => ∃ c a, e = .returned (.bool true) ∧ (a ≤ 140737488355328 ∧ c = coinOf W.coins W.at_ ∧ a = atOf W.coins W.at_) ∧ WdSt K w0 w' p d m ps { W with at_ := a, used := W.used + 1, D := { W.D with tape := W.D.tape ++ [c] } } := by
  obtain ⟨own, vs, vx, vw, h, h2K, hk⟩ := h
  obtain ⟨c0, c1, c2, c3, c4, c5, c6, cz⟩ := blk7 h.blk
  rw [hmost] at c5
  have HW4 := hid (fun (n : Nat) => wd_set4 (K := K) (w0 := w0) (h.below (w' := w.drewN n) ⟨rfl, rfl, rfl, Nat.le_refl _, fun _ _ => rfl⟩) h2K (hk.below ⟨rfl, rfl, rfl, Nat.le_refl _, fun _ _ => rfl⟩ (fun b e => (h2K b e).2)) (W.used + 1))
  have hg : decide ((0 : Int) ≤ -1) = false := by decide
  clear h h2K hk
  go_enter Try.func73, Try.ntmps73
  go_wp2_with fail
  go_quiet (fail)
  go_wp2_with fail
  have hw4 := HW4.out nq
  rw [show ((W.used + 1 : Nat) : Int) = (W.used : Int) + 1 by omega] at hw4
  refine (coin_any p d m ps _ _ hw4 hat hcs).mono ?_
  rintro e w1 ⟨s, a, rfl, hs, ha, h1⟩
  have HS := hid hs
  have HA := hid ha
  clear hw4 HW4 ha c0 c1 c2 c3 c4 c5 c6 cz
  obtain ⟨own, vs, vx, vw, h, h2K, hk⟩ := h1
  obtain ⟨d0, d1, d2, d3, d4, d5, d6, dz⟩ := blk7 h.blk
  have HF := hid (deskFeed d W.D s w1 h.desk hs.2 (by have := hs.1; omega))
  have HH := hid h
  have H2 := hid h2K
  have HK := hid hk
  clear h h2K hk hs
  go_wp2_with fail
  refine HF.out.mono ?_
  rintro e w2 ⟨rfl, hst⟩
  have hfin := HH.out.deskStep H2.out HK.out hst
  have ha2 := HA.out
  rw [ha2.2.1] at hfin
  have HFIN := hid hfin
  clear hfin hst ha2
  go_wp2_with fail
  go_ret
  exact ⟨_, a, rfl, ⟨HA.out.1, rfl, HA.out.2.2⟩, HFIN.out⟩

end Go.Proofs.Ytklicjbpjigfdab
