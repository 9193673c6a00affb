/- DERIVED. The walk of the desk's Rank. -/
import Derived.Test.YtklicjbpjigfdabRankW
import Derived.Test.YtklicjbpjigfdabQ6
import Derived.Test.YtklicjbpjigfdabQ10
import Derived.Test.YtklicjbpjigfdabQ1
import Derived.Test.YtklicjbpjigfdabQ0
import Derived.Test.YtklicjbpjigfdabQ17
namespace Go.Proofs.Ytklicjbpjigfdab
open Go.RowKit
variable {F : Nat → Prop}

set_option maxHeartbeats 1000000 in
set_option maxRecDepth 100000 in
theorem deskRank (d : Nat) (D : Dk) (i : Nat) (q : Int) (w : World) (h : DeskAt F w d D) (hi : i < D.sks.length) (hok : (D.sks.getD i Hd.none).Ok) (hs : ∀ j, j < (D.sks.getD i Hd.none).sk.lv.length → Srt ((D.sks.getD i Hd.none).sk.lv.getD j Lvl.none).items) (hss : ssum (D.sks.getD i Hd.none).sk.lv ≤ 1152921504606846976) :
    Calls Try.prog 48 #[.pointer (some ⟨d, 0, none⟩), .int .i64 (i : Int), .int .i64 q] w fun e w' =>
      (e = if wsum (D.sks.getD i Hd.none).sk.lv = 0 then .returned (.tuple #[.agg #[.int .i64 0, .int .i64 0, .int .i64 0], .int .i64 8]) else .returned (.tuple #[.agg #[.int .i64 (rkLow q (D.sks.getD i Hd.none).sk.lv (D.sks.getD i Hd.none).sk.lo (D.sks.getD i Hd.none).sk.hi), .int .i64 (usum q (D.sks.getD i Hd.none).sk.lv : Int), .int .i64 (rkHigh q (D.sks.getD i Hd.none).sk.lv (D.sks.getD i Hd.none).sk.lo (D.sks.getD i Hd.none).sk.hi)], .int .i64 0])) ∧ Below w.heap.size w w' := by
  obtain ⟨vt, vk, rs, h⟩ := h
  have hdz := lt_of_blk' h.blk
  have hbA : Below w.heap.size w (w.alloc (.cells #[.int .i64 0, .int .i64 0, .int .i64 0] 108)) := (Below.refl w.heap.size w).alloc (Nat.le_refl _) _
  have hA := h.below hbA
  obtain ⟨g, c, rfl, hg, q0, q1, q2, q3, q4⟩ := hA.cells5 hi
  obtain ⟨_, _, c2, _⟩ := blk3 hA.blk
  have HH := hid (has_any d (i : Int) _ _ _ _ c2)
  rw [hasB_nat hi] at HH
  have hlv := h.lv i hi
  have HC := hid (fun (w' : World) (hb : Below w.heap.size w w') => count_any (D.sks.getD i Hd.none).sk.k _ _ (D.sks.getD i Hd.none).sk.lo (D.sks.getD i Hd.none).sk.hi _ _ w' (hlv.below hb) (by have := hok.len; omega) (by have := hok.cnt; omega))
  have HR := hid (fun (w' : World) (hb : Below w.heap.size w w') => skRank_any (D.sks.getD i Hd.none).sk.k _ _ (D.sks.getD i Hd.none).sk.lo (D.sks.getD i Hd.none).sk.hi q _ _ w' (hlv.below hb) hs (by have := hok.len; omega) (by have := hok.cnt; omega) hss)
  have hcnt := hok.cnt
  generalize (D.sks.getD i Hd.none).sk = sk at *
  generalize rs.getD i Ref.none = r at *
  generalize (D.sks.getD i Hd.none).sealed = sl at *
  have hwz : w.heap.size < (w.alloc (.cells #[.int .i64 0, .int .i64 0, .int .i64 0] 108)).heap.size := by simp
  generalize D.sks.length = n at *
  have HBA := hid hbA
  have HZ0 : Hid (wsum sk.lv = wsum sk.lv) := rfl
  generalize rkLow q sk.lv sk.lo sk.hi = rl at *
  generalize rkHigh q sk.lv sk.lo sk.hi = rh at *
  generalize usum q sk.lv = us at *
  generalize wsum sk.lv = ws at *
  clear hA h hok hlv hss hs hbA
  go_enter Try.func48, Try.ntmps48
  go_wp2_with (first | (go_at_call 32; refine HH.out.mono ?_; rintro e w' ⟨rfl, hw⟩; obtain rfl := hw.symm))
  have hbB : Below w.heap.size w ((w.alloc (.cells #[.int .i64 0, .int .i64 0, .int .i64 0] 108)).alloc (skBlk sk.k r.g sk.lv.length r.cap sk.lo sk.hi)) := HBA.out.alloc (by simp) _
  refine (HC.out _ hbB).mono ?_
  rintro e w1 ⟨rfl, hb1⟩
  have hk1 := below_new hb1 (by simp)
  have hkr := (hb1.block w.heap.size (by simp; omega)).trans ((Below.heap_alloc _ _ _ (by simp)).trans (heap_alloc_new w (.cells #[.int .i64 0, .int .i64 0, .int .i64 0] 108)))
  rw [show (w.alloc (.cells #[.int .i64 0, .int .i64 0, .int .i64 0] 108)).heap.size = w.heap.size + 1 by simp] at hk1
  have HB1 : Hid (Below w.heap.size w w1) := hbB.trans (hb1.mono hbB.size)
  have hsz1 : w.heap.size + 1 + 1 ≤ w1.heap.size := by have := hb1.size; simp at this; omega
  obtain ⟨e0, e1, e2, e3, ez⟩ := blk4 hk1
  obtain ⟨d0, d1, d2, dz⟩ := blk3 hkr
  have HKR := hid hkr
  clear hb1 hbB hk1 hkr HC
  by_cases h0 : ws = 0
  · subst h0
    go_wp2_with fail
    refine bodyPost_ret (v := .tuple #[.agg #[.int .i64 0, .int .i64 0, .int .i64 0], .int .i64 8]) (by simp [results, Try.results48, go_sem, d0, d1, d2]) rfl ⟨by rfl, below_set3 HB1.out (Nat.le_refl _) _ _ _⟩
  · have h0' : ((ws : Int) == 0) = false := by simpa using h0
    have HNE := hid h0
    go_wp2_with fail
    refine (HR.out _ HB1.out).mono ?_
    rintro e w2 ⟨rfl, hb2⟩
    have hkr := (hb2.block w.heap.size (by omega)).trans HKR.out
    have HB2 : Hid (Below w.heap.size w w2) := HB1.out.trans (hb2.mono HB1.out.size)
    clear e0 e1 e2 e3 ez d0 d1 d2 dz hb2
    obtain ⟨d0, d1, d2, dz⟩ := blk3 hkr
    clear hkr HR HKR
    go_wp2_with fail
    refine bodyPost_ret (v := .tuple #[.agg #[.int .i64 rl, .int .i64 (us : Int), .int .i64 rh], .int .i64 0]) (by simp [results, Try.results48, go_sem, d0, d1, d2]) rfl ⟨by rfl, below_set3 HB2.out (Nat.le_refl _) _ _ _⟩

end Go.Proofs.Ytklicjbpjigfdab

/- DERIVED. Plain mathematics: sums over the levels from one on. -/
namespace Go.Proofs.Ytklicjbpjigfdab
open Go.RowKit

theorem tsum_drop (L : List Lvl) (j : Nat) (h : j < L.length) : tsum (L.drop j) = (L.getD j Lvl.none).times + tsum (L.drop (j + 1)) := by
  rw [List.drop_eq_getElem_cons h, tsum]; simp [List.getD, h]
theorem wsum_drop' (L : List Lvl) (j : Nat) (h : j < L.length) : wsum (L.drop j) = (L.getD j Lvl.none).items.length + 2 * wsum (L.drop (j + 1)) := by
  rw [List.drop_eq_getElem_cons h, wsum]; simp [List.getD, h]
theorem wsum_drop_le : ∀ (L : List Lvl) (j : Nat), 2 ^ j * wsum (L.drop j) ≤ wsum L
  | _, 0 => by simp
  | [], j + 1 => by simp [wsum]
  | l :: L, j + 1 => by
    have := wsum_drop_le L j
    simp only [List.drop_succ_cons, wsum]
    rw [Nat.pow_succ, Nat.mul_right_comm]
    omega
theorem nsum_drop_le (L : List Lvl) (j : Nat) : nsum (L.drop j) ≤ nsum L := by
  induction L generalizing j with
  | nil => simp
  | cons l L ih =>
    cases j with
    | zero => simp
    | succ j => have := ih j; simp only [List.drop_succ_cons, nsum]; omega
theorem tsum_drop_le (L : List Lvl) (j : Nat) : tsum (L.drop j) ≤ tsum L := by
  induction L generalizing j with
  | nil => simp
  | cons l L ih =>
    cases j with
    | zero => simp
    | succ j => have := ih j; simp only [List.drop_succ_cons, tsum]; omega

end Go.Proofs.Ytklicjbpjigfdab

/- DERIVED. The walk of holds: it returns the capacity, and changes nothing. -/
namespace Go.Proofs.Ytklicjbpjigfdab
open Go.RowKit

set_option maxHeartbeats 400000 in
theorem holds_any (k d : Nat) (w : World) (hk2 : 2 ≤ k) (hk : k ≤ 64) (hd : d ≤ 30) :
    Calls Try.prog 52 #[.int .i64 (k : Int), .int .i64 (d : Int)] w fun e w' => e = .returned (.int .i64 (capOf k d : Int)) ∧ w' = w := by
  go_enter Try.func52, Try.ntmps52
  go_wp2
  go_loop [5, 6, 7] (fun a b i => ∃ j : Nat, j ≤ d ∧ i = .int .i64 j ∧ a = .int .i64 ((2 ^ j : Nat) : Int) ∧ b = .int .i64 ((3 ^ j : Nat) : Int)) (fun _ _ i => d - (intOf i).toNat)
  case atStart => exact ⟨0, Nat.zero_le _, rfl, rfl, rfl⟩
  case round =>
    obtain ⟨j, hj, rfl, rfl, rfl⟩ := hrel
    have b2 := pow2_bd (j := j) (by omega)
    have b3 := pow3_bd (j := j) (by omega)
    by_cases hlt : j < d
    · have HS2 : Hid ((2 ^ (j + 1) : Nat) = 2 * 2 ^ j) := by rw [Nat.pow_succ, Nat.mul_comm]; exact rfl
      have HS3 : Hid ((3 ^ (j + 1) : Nat) = 3 * 3 ^ j) := by rw [Nat.pow_succ, Nat.mul_comm]; exact rfl
      generalize 2 ^ j = p2 at *
      generalize 3 ^ j = p3 at *
      go_wp2
      go_round
      case rel => exact ⟨j + 1, by omega, by go_num, by rw [HS2.out]; go_num, by rw [HS3.out]; go_num⟩
      case measure => simp [intOf]; omega
    · have : j = d := by omega
      subst this
      have HC : Hid (capOf k j = capFrom k (3 ^ j) (2 ^ j) k 2) := rfl
      generalize 2 ^ j = p2 at *
      generalize 3 ^ j = p3 at *
      go_wp2
      go_loop [8] (fun t => ∃ c f : Nat, c + f = k + 2 ∧ c ≤ k ∧ t = .int .i64 (c : Int) ∧ Hid (capOf k j = capFrom k p3 p2 f c)) (fun t => k - (intOf t).toNat)
      case atStart => exact ⟨2, k, by omega, hk2, rfl, HC⟩
      case round =>
        obtain ⟨c, f, hcf, hck, rfl, hc⟩ := hrel
        have m1 : (c : Int) * (p3 : Int) ≤ 13588814718246834 := mul_bd (a := 66) (by omega) b3
        have m2 : (k : Int) * (p2 : Int) ≤ 68719476736 := mul_bd hk b2
        have m3 := mul_nn c p3
        have m4 := mul_nn k p2
        by_cases h1 : c < k
        · by_cases h2 : (c : Int) * (p3 : Int) < (k : Int) * (p2 : Int)
          · go_wp2
            go_round
            case rel =>
              obtain ⟨f', rfl⟩ : ∃ f', f = f' + 1 := ⟨f - 1, by omega⟩
              refine ⟨c + 1, f', by omega, by omega, by go_num, ?_⟩
              have h2' : c * p3 < k * p2 := mul_lt_cast.1 h2
              exact hc.out.trans (capFrom_step ⟨h1, h2'⟩)
            case measure => simp [intOf]; omega
          · have HF : Hid (capOf k j = c) := hc.out.trans (capFrom_stop (fun h => h2 (mul_lt_cast.2 h.2)))
            go_wp2
            go_ret
            exact ⟨ret_int (by rw [HF.out]), rfl⟩
        · have HF : Hid (capOf k j = k) := (hc.out.trans (capFrom_stop (fun h => h1 h.1))).trans (by omega)
          go_wp2
          go_ret
          exact ⟨ret_int (by rw [HF.out]), rfl⟩

end Go.Proofs.Ytklicjbpjigfdab

/- DERIVED. The walks of the statement's own off and within. -/
namespace Go.Proofs.Ytklicjbpjigfdab
open Go.RowKit
variable {K : Nat → Prop} {w0 : World} {nw : Nat}

theorem timesOf_getD (L : List Lvl) (j : Nat) (h : j < L.length) : (timesOf L).getD j 0 = ((L.getD j Lvl.none).times : Int) := by
  unfold timesOf
  simp [List.getD, h]
theorem timesOf_len (L : List Lvl) : (timesOf L).length = L.length := by simp [timesOf]

/-- The spread is small enough. -/
theorem ssum_small {h : Hd} {s : Sd} (hc : Came h s) (hro : Roomy h.sk.k h.sk.lv) : ssum h.sk.lv ≤ 1152921504606846976 := by
  have h1 := hro.ssum
  have h2 := hc.inok.ok.cnt
  have h3 : 2 ^ h.sk.lv.length ≤ 1073741824 := pow2_bd (by have := hc.inok.ok.len; omega)
  have h4 := Nat.mul_le_mul h3 h2
  omega

set_option maxHeartbeats 2000000 in
set_option maxRecDepth 100000 in
theorem off_any (p d i : Nat) (ps : Nat → Nat) (W : Wd) (w : World) (h : WdSt K w0 w p d nw ps W) (hi : i < nw) (hl : W.D.sks.length = nw) (hc : Came (W.D.sks.getD i Hd.none) (W.sd i)) (hro : Roomy (W.D.sks.getD i Hd.none).sk.k (W.D.sks.getD i Hd.none).sk.lv) :
    Calls Try.prog 47 #[.pointer (some ⟨p, 0, none⟩), .int .i64 (i : Int)] w fun e w' => e = .returned (.tuple #[.int .i64 (esum (W.D.sks.getD i Hd.none).sk.lv : Int), .int .i64 (ssum (W.D.sks.getD i Hd.none).sk.lv : Int), .bool true]) ∧ Below w.heap.size w w' := by
  obtain ⟨own, vs, vx, vw, h, _⟩ := h
  obtain ⟨c0, c1, c2, c3, c4, c5, c6, cz⟩ := blk7 h.blk
  have hil : i < W.D.sks.length := by rw [hl]; exact hi
  have hss := ssum_small hc hro
  have HLE := hid (deskLedger d W.D i w h.desk hil hc.inok.ok hss)
  have hlen1 := hc.inok.ok.len1
  have hlen2 := hc.inok.ok.len
  have hel := esum_le (W.D.sks.getD i Hd.none).sk.lv
  generalize W.D.sks.getD i Hd.none = de at *
  generalize hlve : de.sk.lv = L at *
  generalize hlne : L.length = ln at *
  have HLN0 := hid hlne
  have g3 : decide ((ln : Int) < 1) = false := by simp; omega
  have g4 : decide ((29 : Int) < (ln : Int)) = false := by simp; omega
  clear h hc hlve hlne hil hl hro
  go_enter Try.func47, Try.ntmps47
  go_wp2_with fail
  refine HLE.out.mono ?_
  rintro e w2 ⟨gt, ct, rfl, hgt, hown, hb2⟩
  have hWB : Below w.heap.size w (w2.alloc (.cells #[.slice (some ⟨gt, 0, none⟩) ln ct, .int .i64 (esum L : Int), .int .i64 (ssum L : Int)] 131)) := hb2.alloc hb2.size _
  have hGB : (w2.alloc (.cells #[.slice (some ⟨gt, 0, none⟩) ln ct, .int .i64 (esum L : Int), .int .i64 (ssum L : Int)] 131)).heap[w2.heap.size]? = some (.cells #[.slice (some ⟨gt, 0, none⟩) ln ct, .int .i64 (esum L : Int), .int .i64 (ssum L : Int)] 131 (0, 0)) := heap_alloc_new w2 _
  have hTR := ownsRow_below hown ((Below.refl w2.heap.size w2).alloc (Nat.le_refl _) (.cells #[.slice (some ⟨gt, 0, none⟩) ln ct, .int .i64 (esum L : Int), .int .i64 (ssum L : Int)] 131)) (fun g e => ownsRow_lt hown e)
  have HTC : Hid (∀ t, t < ln → (w2.alloc (.cells #[.slice (some ⟨gt, 0, none⟩) ln ct, .int .i64 (esum L : Int), .int .i64 (ssum L : Int)] 131)).cell? ⟨gt, t, none⟩ = some (.int .i64 ((L.getD t Lvl.none).times : Int))) := by
    intro t ht
    refine ownsRow_cell hTR ?_
    have h1 : t < (timesOf L).length := by rw [timesOf_len, HLN0.out]; exact ht
    rw [← timesOf_getD L t (by rw [HLN0.out]; exact ht)]
    simp [ints, List.getD, h1]
  have HGT := ownsRow_lt hTR rfl
  clear hown hTR hb2 hgt HLE c0 c1 c2 c3 c4 c5 c6 cz
  go_wp2_with fail
  generalize w2.alloc (.cells #[.slice (some ⟨gt, 0, none⟩) ln ct, .int .i64 (esum L : Int), .int .i64 (ssum L : Int)] 131) = WB at *
  generalize w2.heap.size = gb at *
  obtain ⟨z0, z1, z2, zz⟩ := blk3 hGB
  have HWB := hid hWB
  clear hWB hGB g3 g4
  go_loop [9, 10, 11] (fun sa sb si => ∃ j a b : Nat, j ≤ ln ∧ si = .int .i64 j ∧ sa = .int .i64 a ∧ sb = .int .i64 b ∧ Hid (a + 2 ^ j * esum (L.drop j) = esum L) ∧ Hid (b + 2 ^ j * 2 ^ j * ssum (L.drop j) = ssum L)) (fun _ _ si => ln - (intOf si).toNat)
  case atStart => exact ⟨0, 0, 0, Nat.zero_le _, rfl, rfl, rfl, by simp [Hid], by simp [Hid]⟩
  case round =>
    obtain ⟨j, a, b, hj, rfl, rfl, rfl, Ha, Hb⟩ := hrel
    by_cases hlt : j < ln
    · have hlt' : j < L.length := by rw [HLN0.out]; exact hlt
      have hcell := HTC.out j hlt
      have HE := hid (estep hlt' Ha.out)
      have HS := hid (sstep hlt' Hb.out)
      have HP2 : Hid (2 ^ (j + 1) = 2 ^ j * 2) := Nat.pow_succ ..
      have b2 := pow2_bd (j := j) (by omega)
      have HPW := hid (fun (w' : World) => power_any j w' (by omega))
      generalize (L.getD j Lvl.none).times = tm at *
      generalize 2 ^ j = pw at *
      have hs1 : (0 : Int) ≤ (j : Int) := by omega
      have hs2 : (j : Int) < (ln : Int) := by omega
      have n1 := mul_nn pw tm
      have n2 := mul_nn pw pw
      have m1 : (a : Int) + (pw : Int) * (tm : Int) ≤ 1152921504606846976 := by
        have := HE.out
        rw [← Int.natCast_mul]
        generalize pw * tm = x at *
        omega
      have m2 : (pw : Int) * (pw : Int) ≤ 1152921504606846976 := by
        have := mul_bd b2 b2
        exact Int.le_trans this (by decide)
      have n3 : 0 ≤ (pw : Int) * (pw : Int) * (tm : Int) := Int.mul_nonneg n2 (by omega)
      have m3 : (b : Int) + (pw : Int) * (pw : Int) * (tm : Int) ≤ 1152921504606846976 := by
        have := HS.out
        rw [← Int.natCast_mul, ← Int.natCast_mul]
        generalize pw * pw * tm = x at *
        omega
      clear Ha Hb
      go_wp2_with (first | (go_at_call 45; refine (HPW.out _).mono ?_; rintro e w' ⟨rfl, hw⟩; obtain rfl := hw.symm))
      go_round
      case rel =>
        refine ⟨j + 1, a + pw * tm, b + pw * pw * tm, by omega, by go_num, by rw [Int.natCast_add, Int.natCast_mul], by rw [Int.natCast_add, Int.natCast_mul, Int.natCast_mul], ?_, ?_⟩
        · rw [HP2.out]; exact HE
        · rw [HP2.out]; exact HS
      case measure => simp [intOf]; omega
    · have ea : a = esum L := by have := esum_end L j (by rw [HLN0.out]; omega); have h2 := Ha.out; rw [this] at h2; omega
      have eb : b = ssum L := by have := ssum_end L j (by rw [HLN0.out]; omega); have h2 := Hb.out; rw [this] at h2; omega
      subst ea eb
      have e1 : (((esum L : Nat) : Int) == ((esum L : Nat) : Int)) = true := by simp
      have e2 : (((ssum L : Nat) : Int) == ((ssum L : Nat) : Int)) = true := by simp
      generalize hes : esum L = es at *
      generalize hssm : ssum L = ss at *
      have HES := hid hes
      have HSS := hid hssm
      clear Ha Hb hes hssm
      go_wp2_with fail
      go_quiet (fail)
      go_wp2_with fail
      go_ret3
      exact ⟨by rw [HES.out, HSS.out]; simp, below_drewN HWB.out _⟩

theorem esum_zero : ∀ {L : List Lvl}, tsum L = 0 → esum L = 0
  | [], _ => rfl
  | l :: L, h => by
    simp only [tsum] at h
    have := esum_zero (L := L) (by omega)
    simp only [esum]; omega
theorem wFilter_pos {p : Int → Bool} {x : Int} : ∀ {xs : List Int} {ws : List Nat}, xs.length = ws.length → (∀ v ∈ ws, 1 ≤ v) → x ∈ xs → p x = true → 1 ≤ wFilter p xs ws
  | [], _, _, _, hx, _ => by simp at hx
  | y :: xs, [], hl, _, _, _ => by simp at hl
  | y :: xs, w :: ws, hl, hw, hx, hp => by
    rw [wFilter]
    rcases List.mem_cons.1 hx with rfl | hx
    · rw [hp]; have := hw w (by simp); simp; omega
    · have := wFilter_pos (p := p) (xs := xs) (ws := ws) (by simpa using hl) (fun v hv => hw v (by simp [hv])) hx hp
      omega
theorem wFilter_miss {p : Int → Bool} {x : Int} : ∀ {xs : List Int} {ws : List Nat}, xs.length = ws.length → (∀ v ∈ ws, 1 ≤ v) → x ∈ xs → p x = false → wFilter p xs ws + 1 ≤ wAll ws
  | [], _, _, _, hx, _ => by simp at hx
  | y :: xs, [], hl, _, _, _ => by simp at hl
  | y :: xs, w :: ws, hl, hw, hx, hp => by
    rw [wFilter, wAll]
    rcases List.mem_cons.1 hx with rfl | hx
    · have := wFilter_le p xs ws
      rw [hp]; have := hw w (by simp); simp; omega
    · have := wFilter_miss (p := p) (xs := xs) (ws := ws) (by simpa using hl) (fun v hv => hw v (by simp [hv])) hx hp
      split <;> omega

/-- What Rank tells holds. -/
theorem rank_holds {h : Hd} {s : Sd} {q : Int} (hc : Came h s) (hn : Near q h.sk.lv (wFilter (fun x => decide (x ≤ q)) s.xs s.ws)) (h0 : s.n ≠ 0) :
    0 ≤ rkLow q h.sk.lv h.sk.lo h.sk.hi ∧ rkLow q h.sk.lv h.sk.lo h.sk.hi ≤ (wFilter (fun x => decide (x ≤ q)) s.xs s.ws : Int) ∧ (wFilter (fun x => decide (x ≤ q)) s.xs s.ws : Int) ≤ rkHigh q h.sk.lv h.sk.lo h.sk.hi ∧ rkHigh q h.sk.lv h.sk.lo h.sk.hi ≤ (wsum h.sk.lv : Int) ∧ rkHigh q h.sk.lv h.sk.lo h.sk.hi - rkLow q h.sk.lv h.sk.lo h.sk.hi ≤ 2 * (esum h.sk.lv : Int) := by
  obtain ⟨n1, n2⟩ := hn
  have hw := hc.inok.n
  have hs := hc.sum
  rcases hc.ends with e | ⟨m1, m2, m3⟩
  · exact absurd e h0
  · have hle := wFilter_le (fun x => decide (x ≤ q)) s.xs s.ws
    unfold rkLow rkHigh
    by_cases h1 : q < h.sk.lo
    · have hr : wFilter (fun x => decide (x ≤ q)) s.xs s.ws = 0 := wFilter_none _ _ _ (fun x hx => by have := m3 x hx; simp; omega)
      simp only [if_pos h1, hr]; omega
    · simp only [if_neg h1]
      by_cases h2 : h.sk.hi ≤ q
      · have hr : wFilter (fun x => decide (x ≤ q)) s.xs s.ws = wAll s.ws := wFilter_all _ _ _ hc.len (fun x hx => by have := m3 x hx; simp; omega)
        simp only [if_pos h2, hr]; omega
      · have p1 := wFilter_pos (p := fun x => decide (x ≤ q)) hc.len hc.pos m1 (by simp; omega)
        have p2 := wFilter_miss (p := fun x => decide (x ≤ q)) hc.len hc.pos m2 (by simp; omega)
        simp only [if_neg h2]
        generalize wFilter (fun x => decide (x ≤ q)) s.xs s.ws = r at *
        split <;> split <;> omega

set_option maxHeartbeats 2000000 in
set_option maxRecDepth 100000 in
theorem within_gen (p d i : Nat) (q : Int) (ps : Nat → Nat) (W : Wd) (w : World) (h : WdSt K w0 w p d nw ps W) (hi : i < nw) (hlen : W.D.sks.length = nw) (hc : Came (W.D.sks.getD i Hd.none) (W.sd i)) (hro : Roomy (W.D.sks.getD i Hd.none).sk.k (W.D.sks.getD i Hd.none).sk.lv) (hne : Near q (W.D.sks.getD i Hd.none).sk.lv (wFilter (fun x => decide (x ≤ q)) (W.sd i).xs (W.sd i).ws)) :
    Calls Try.prog 16 #[.pointer (some ⟨p, 0, none⟩), .int .i64 (i : Int), .int .i64 q] w fun e w' => e = .returned (.bool true) ∧ Below w.heap.size w w' := by
  have HOF := hid (off_any p d i ps W w h hi hlen hc hro)
  obtain ⟨own, vs, vx, vw, h, _⟩ := h
  obtain ⟨gs, cs0, evs, hptr⟩ := h.ptr hi
  obtain ⟨c0, c1, c2, c3, c4, c5, c6, cz⟩ := blk7 h.blk
  rw [evs] at c1
  have hil : i < W.D.sks.length := by rw [hlen]; exact hi
  have hss := ssum_small hc hro
  have HRK := hid (fun (w' : World) (hb : Below w.heap.size w w') => deskRank d W.D i q w' (h.desk.below hb) hil hc.inok.ok (fun j _ => (hc.lvok.at j).1) hss)
  have HUP := hid (fun (w' : World) (hb : Below w.heap.size w w') => upTo_any (ps i) (W.sd i) (vx i) (vw i) q w' ((h.side i hi).below hb) (by have := hc.inok.xl; omega) (by rw [hc.sum, hc.inok.n]; have := hc.inok.ok.cnt; omega))
  have hel := esum_le (W.D.sks.getD i Hd.none).sk.lv
  have hub := usum_le q (W.D.sks.getD i Hd.none).sk.lv
  have hcnt := hc.inok.ok.cnt
  have hnw := hc.inok.n
  have HRH : Hid ((W.sd i).n ≠ 0 → _) := fun h0 => rank_holds hc hne h0
  have HE0 : Hid ((W.sd i).n = 0 → esum (W.D.sks.getD i Hd.none).sk.lv = 0) := fun h0 => esum_zero (by have := hc.tn; omega)
  have HNE := hid hne
  have HPB := hid h.blk
  have hpz := lt_of_blk' h.blk
  have HSD := hid (h.side i hi).blk
  have hsz := lt_of_blk' (h.side i hi).blk
  have hle := wFilter_le (fun x => decide (x ≤ q)) (W.sd i).xs (W.sd i).ws
  rw [hc.sum] at hle
  have hs1 : (0 : Int) ≤ (i : Int) := by omega
  have hs2 : (i : Int) < (nw : Int) := by omega
  unfold Near at HNE
  generalize hwf : wFilter (fun x => decide (x ≤ q)) (W.sd i).xs (W.sd i).ws = r at *
  generalize W.D.sks.getD i Hd.none = de at *
  generalize rkLow q de.sk.lv de.sk.lo de.sk.hi = rl at *
  generalize rkHigh q de.sk.lv de.sk.lo de.sk.hi = rh at *
  generalize usum q de.sk.lv = us at *
  generalize esum de.sk.lv = es at *
  generalize wsum de.sk.lv = ws at *
  generalize ps i = pi at *
  generalize hn9 : (W.sd i).n = sn at *
  clear hc hro hne h evs hwf
  go_enter Try.func16, Try.ntmps16
  go_wp2_with fail
  refine HOF.out.mono ?_
  rintro e w1 ⟨rfl, hb1⟩
  have hp1 := (hb1.block _ hpz).trans HPB.out
  clear c0 c1 c2 c3 c4 c5 c6 cz
  obtain ⟨c0, c1, c2, c3, c4, c5, c6, cz⟩ := blk7 hp1
  have HB1 := hid hb1
  clear hb1 hp1 HOF
  go_wp2_with fail
  refine (HRK.out _ HB1.out).mono ?_
  rintro e w2 ⟨he, hb2⟩
  have hb9 : Below w.heap.size w w2 := HB1.out.trans (hb2.mono HB1.out.size)
  have hs2' := (hb9.block _ hsz).trans HSD.out
  have s2' : w2.cell? ⟨pi, 2, none⟩ = some (.int .i64 (sn : Int)) := (blk6 hs2').2.2.1
  have HB2 := hid hb9
  have hpi2 : pi < w2.heap.size := lt_of_blk' hs2'
  clear hb2 hb9 hs2' HRK c0 c1 c2 c3 c4 c5 c6 cz hn9
  by_cases h0 : sn = 0
  · have hw0 : ws = 0 := by omega
    rw [if_pos hw0] at he
    subst he
    have he0 := HE0.out h0
    subst h0
    subst he0
    clear HE0 HRH hnw
    go_wp2_with fail
    go_ret
    exact ⟨by simp, HB2.out.alloc HB2.out.size _⟩
  · have hw0 : ¬ ws = 0 := by omega
    rw [if_neg hw0] at he
    subst he
    obtain ⟨a1, a2, a3, a4, a5⟩ := HRH.out h0
    have h0' : ((sn : Int) == 0) = false := by simpa using h0
    obtain ⟨b1, b2⟩ := HNE.out
    have f1 : decide ((us : Int) - (r : Int) ≤ (es : Int)) = true := decide_eq_true (by omega)
    have f2 : decide ((r : Int) - (us : Int) ≤ (es : Int)) = true := decide_eq_true (by omega)
    have f3 : decide (rl ≤ (r : Int)) = true := decide_eq_true a2
    have f4 : decide ((r : Int) ≤ rh) = true := decide_eq_true a3
    have f5 : decide (rh - rl ≤ 2 * (es : Int)) = true := decide_eq_true a5
    clear HE0 HRH HNE
    go_wp2_with fail
    refine (HUP.out _ (HB2.out.alloc HB2.out.size _)).mono ?_
    rintro e w' ⟨rfl, hw⟩
    obtain rfl := hw.symm
    clear hw HUP
    go_wp2_with fail
    go_ret
    exact ⟨rfl, HB2.out.alloc HB2.out.size _⟩

theorem within_any (p d i : Nat) (q : Int) (ps : Nat → Nat) (W : Wd) (w : World) (h : WdSt K w0 w p d 3 ps W) (hi : i < 3) (hm : MInv W) :
    Calls Try.prog 16 #[.pointer (some ⟨p, 0, none⟩), .int .i64 (i : Int), .int .i64 q] w fun e w' => e = .returned (.bool true) ∧ Below w.heap.size w w' :=
  within_gen p d i q ps W w h hi hm.len (hm.came i hi) (hm.roomy i hi) (hm.near i hi q)

end Go.Proofs.Ytklicjbpjigfdab
