/- DERIVED. The walks of what is told of ranks: atMost, upTo, Rank. -/
import Derived.Test.YtklicjbpjigfdabGreatQ5
import Derived.Test.YtklicjbpjigfdabGreatQ8
import Derived.Deep.Cut
namespace Go.Proofs.YtklicjbpjigfdabGreat
open Go.RowKit
variable {F : Nat → Prop}

theorem cnt_drop {q : Int} {l : List Int} {j : Nat} (h : j < l.length) : cnt q (l.drop j) = (if l.getD j 0 ≤ q then 1 else 0) + cnt q (l.drop (j + 1)) := by
  rw [List.drop_eq_getElem_cons h, cnt_cons]
  have : l.getD j 0 = l[j] := by simp [List.getD, h]
  rw [this]; omega
theorem cnt_past {q : Int} {l : List Int} {j : Nat} (hs : Srt l) (h : j < l.length) (hq : q < l.getD j 0) : cnt q (l.drop j) = 0 := by
  refine cnt_zero (fun x hx => ?_)
  have e : l.getD j 0 = l[j] := by simp [List.getD, h]
  rw [List.drop_eq_getElem_cons h] at hx
  have hd : Srt (l.drop j) := hs.sublist (List.drop_sublist _ _)
  rw [List.drop_eq_getElem_cons h] at hd
  rcases List.mem_cons.1 hx with rfl | hx
  · omega
  · have := List.rel_of_pairwise_cons hd hx; omega
theorem cnt_end {q : Int} {l : List Int} {j : Nat} (h : l.length ≤ j) : cnt q (l.drop j) = 0 := by rw [List.drop_eq_nil_of_le h]; rfl

set_option maxHeartbeats 400000 in
theorem atMost_any (v : Value) (its : List Int) (q : Int) (w : World) (h : Ints w v its) (hs : Srt its) (hl : its.length ≤ 1099511627776) :
    Calls Tryz.prog 121 #[v, .int .i64 q] w fun e w' => e = .returned (.int .i64 (cnt q its : Int)) ∧ w' = w := by
  obtain ⟨ao, cc, rfl, hcl, hcm, hno, hso⟩ := h.form
  generalize hn : its.length = n at *
  have HN := hid hn
  have HNO := hid hno
  have HSO := hid hso
  have HS := hid hs
  clear hn hno hso hs h
  go_enter Tryz.func121, Tryz.ntmps121
  go_wp2_with fail
  go_loop [5] (fun s => ∃ k : Nat, k ≤ n ∧ s = .int .i64 k ∧ Hid (cnt q its = k + cnt q (its.drop k))) (fun s => n - (intOf s).toNat)
  case atStart => exact ⟨0, Nat.zero_le _, rfl, by simp [Hid]⟩
  case round =>
    obtain ⟨k, hk, rfl, Hc⟩ := hrel
    by_cases hkn : k < n
    · obtain ⟨gc, rfl⟩ : ∃ g, ao = some ⟨g, 0, none⟩ := by
        cases ao with
        | none => have h9 := (HNO.out rfl).1; have h8 := HN.out; rw [h9] at h8; simp at h8; omega
        | some a => obtain ⟨g, rfl, _⟩ := HSO.out a rfl; exact ⟨g, rfl⟩
      obtain ⟨gc', e1, hgc, hcc⟩ := HSO.out _ rfl
      cases e1
      have hcell := hcc k hkn
      have HD := hid (cnt_drop (q := q) (l := its) (j := k) (by rw [HN.out]; exact hkn))
      have hlt' : decide ((k : Int) < (n : Int)) = true := by simp; omega
      have hs1 : (0 : Int) ≤ (k : Int) := by omega
      have hs2 : (k : Int) < (n : Int) := by omega
      have HP : Hid (q < its.getD k 0 → cnt q (its.drop k) = 0) := fun hq => cnt_past HS.out (by rw [HN.out]; exact hkn) hq
      generalize its.getD k 0 = y at *
      clear hcc
      by_cases hy : y ≤ q
      · have hy' : decide (y ≤ q) = true := decide_eq_true hy
        have HC2 : Hid (cnt q its = (k + 1) + cnt q (its.drop (k + 1))) := by
          have a := Hc.out
          have b := HD.out
          rw [if_pos hy] at b
          unfold Hid; omega
        go_wp2_with fail
        go_round
        case rel => exact ⟨k + 1, by omega, by go_num, HC2⟩
        case measure => simp [intOf]; omega
      · have hy' : decide (y ≤ q) = false := decide_eq_false hy
        have HC2 : Hid (cnt q its = k) := by
          have a := Hc.out
          have b := HP.out (by omega)
          unfold Hid; omega
        go_wp2_with fail
        go_ret
        exact ⟨ret_int (by rw [HC2.out]), rfl⟩
    · have hlt' : decide ((k : Int) < (n : Int)) = false := by simp; omega
      have HC2 : Hid (cnt q its = k) := by
        have a := Hc.out
        have b := cnt_end (q := q) (l := its) (j := k) (by rw [HN.out]; omega)
        unfold Hid; omega
      go_wp2_with fail
      go_ret
      exact ⟨ret_int (by rw [HC2.out]), rfl⟩

theorem ustep {q : Int} {L : List Lvl} {j c p : Nat} (h : j < L.length) (hc : c + p * usum q (L.drop j) = usum q L) : (c + p * cnt q (L.getD j Lvl.none).items) + (p * 2) * usum q (L.drop (j + 1)) = usum q L := by
  rw [lv_drop L j h, usum, Nat.mul_add] at hc
  rw [← hc, Nat.mul_assoc]; omega
theorem usum_end (q : Int) (L : List Lvl) (j : Nat) (h : L.length ≤ j) : usum q (L.drop j) = 0 := by rw [List.drop_eq_nil_of_le h, usum]

set_option maxHeartbeats 400000 in
theorem skUpTo_any (k g cap : Nat) (lo hi q : Int) (vs : List Value) (L : List Lvl) (w : World) (hL : LvAt F w g cap vs L) (hs : ∀ j, j < L.length → Srt (L.getD j Lvl.none).items) (hlen : L.length ≤ 30) (hbd : wsum L ≤ 1099511627776) :
    Calls Tryz.prog 100 #[skVal k g L.length cap lo hi, .int .i64 q] w fun e w' => e = .returned (.int .i64 (usum q L : Int)) ∧ Below w.heap.size w w' := by
  obtain ⟨n, hn⟩ : ∃ n, n = L.length := ⟨_, rfl⟩
  have HN : Hid (n = L.length) := hn
  rw [← hn] at hlen ⊢
  have HS := hid hs
  have hub := usum_le q L
  clear hn hs
  go_enter Tryz.func100, Tryz.ntmps100
  go_wp2_with fail
  go_loopw [5, 6, 12] (fun t p i wr => ∃ j c : Nat, j ≤ n ∧ i = .int .i64 j ∧ p = .int .i64 ((2 ^ j : Nat) : Int) ∧ t = .int .i64 c ∧ Hid (c + 2 ^ j * usum q (L.drop j) = usum q L) ∧ Below w.heap.size w wr) (fun _ _ i _ => n - (intOf i).toNat)
  case atStart => exact ⟨0, 0, Nat.zero_le _, rfl, rfl, rfl, by simp [Hid], (Below.refl _ _).alloc (Nat.le_refl _) _⟩
  case round =>
    obtain ⟨j, c, hj, rfl, rfl, rfl, hc, hb⟩ := hrel
    by_cases hlt : j < n
    · have hlt' : j < L.length := by rw [← HN.out]; exact hlt
      obtain ⟨ao, cc, ev⟩ := hL.itemsForm hlt'
      have c0 : wr.cell? ⟨g, j * 2, none⟩ = some (.slice ao (L.getD j Lvl.none).items.length cc) := (hb.cell (by exact hL.lt)).trans ((hL.cell0 hlt').trans (by rw [ev]))
      have c1 : wr.cell? ⟨g, j * 2 + 1, none⟩ = some (.int .i64 ((L.getD j Lvl.none).times : Int)) := (hb.cell (by exact hL.lt)).trans (hL.cell1 hlt')
      have hil : (L.getD j Lvl.none).items.length ≤ 1099511627776 := by have := nsum_at hlt'; have := nsum_le L; omega
      have HI := hid (fun o => ((hL.its j hlt').below hb).alloc o)
      rw [ev] at HI
      have HA := hid (fun (o : Obj) => atMost_any _ _ q _ (HI.out o) (HS.out j hlt') hil)
      have HST : Hid ((c + 2 ^ j * cnt q (L.getD j Lvl.none).items) + (2 ^ j * 2) * usum q (L.drop (j + 1)) = usum q L) := ustep hlt' hc.out
      have HP : Hid (2 ^ (j + 1) = 2 ^ j * 2) := Nat.pow_succ ..
      have b2 := pow2_bd (j := j) (by omega)
      generalize (L.getD j Lvl.none).items.length = m at *
      generalize cnt q (L.getD j Lvl.none).items = cq at *
      generalize (L.getD j Lvl.none).times = tm at *
      generalize 2 ^ j = p at *
      have hcb : (c : Int) + (p : Int) * (cq : Int) ≤ 1099511627776 := by
        have := HST.out
        rw [← Int.natCast_mul]
        generalize p * cq = pm at *
        omega
      have hnn := mul_nn p cq
      clear ev HI
      go_wp2_with (first | (go_at_call 121; refine (HA.out _).mono ?_; rintro e w' ⟨rfl, hw⟩; obtain rfl := hw.symm))
      go_roundw
      case rel =>
        refine ⟨j + 1, c + p * cq, by omega, by go_num, by rw [HP.out]; go_num, by rw [Int.natCast_add, Int.natCast_mul], ?_, hb.alloc hb.size _⟩
        rw [HP.out]; exact HST
      case measure => simp [intOf]; omega
    · have HE : Hid (c = usum q L) := by have := usum_end q L j (by rw [← HN.out]; omega); have := hc.out; rw [‹usum q (L.drop j) = 0›] at this; unfold Hid; omega
      go_wp2
      go_ret
      exact ⟨ret_int (by rw [HE.out]), hb⟩

/-- What Rank tells. -/
def rkLow (q : Int) (L : List Lvl) (lo hi : Int) : Int := if q < lo then 0 else if hi ≤ q then (wsum L : Int) else if (usum q L : Int) - (esum L : Int) < 1 then 1 else (usum q L : Int) - (esum L : Int)
def rkHigh (q : Int) (L : List Lvl) (lo hi : Int) : Int := if q < lo then 0 else if hi ≤ q then (wsum L : Int) else if (wsum L : Int) - 1 < (usum q L : Int) + (esum L : Int) then (wsum L : Int) - 1 else (usum q L : Int) + (esum L : Int)

set_option maxHeartbeats 1000000 in
set_option maxRecDepth 100000 in
theorem skRank_any (k g cap : Nat) (lo hi q : Int) (vs : List Value) (L : List Lvl) (w : World) (hL : LvAt F w g cap vs L) (hs : ∀ j, j < L.length → Srt (L.getD j Lvl.none).items) (hlen : L.length ≤ 30) (hbd : wsum L ≤ 1099511627776) (hss : ssum L ≤ 1152921504606846976) :
    Calls Tryz.prog 75 #[skVal k g L.length cap lo hi, .int .i64 q] w fun e w' => e = .returned (.agg #[.int .i64 (rkLow q L lo hi), .int .i64 (usum q L : Int), .int .i64 (rkHigh q L lo hi)]) ∧ Below w.heap.size w w' := by
  have HU := hid (fun (w' : World) (hb : Below w.heap.size w w') => skUpTo_any k g cap lo hi q vs L w' (hL.below hb) hs hlen hbd)
  have HC := hid (fun (w' : World) (hb : Below w.heap.size w w') => count_any k g cap lo hi vs L w' (hL.below hb) hlen hbd)
  have HLE := hid (fun (w' : World) (hb : Below w.heap.size w w') => ledger_any k g cap lo hi vs L w' (hL.below hb) hlen hss)
  have hub := usum_le q L
  have hel := esum_le L
  obtain ⟨n, hn⟩ : ∃ n, n = L.length := ⟨_, rfl⟩
  rw [← hn] at HU HC HLE ⊢
  have HRL : Hid (rkLow q L lo hi = rkLow q L lo hi) := rfl
  have HRH : Hid (rkHigh q L lo hi = rkHigh q L lo hi) := rfl
  generalize hrl : rkLow q L lo hi = rl at *
  generalize hrh : rkHigh q L lo hi = rh at *
  unfold rkLow at hrl
  unfold rkHigh at hrh
  generalize usum q L = us at *
  generalize esum L = es at *
  generalize ssum L = ss at *
  generalize wsum L = ws at *
  have HL1 := hid hrl
  have HH1 := hid hrh
  clear hn hs hL HRL HRH hrl hrh
  go_enter Tryz.func75, Tryz.ntmps75
  go_wp2_with fail
  have hbA : Below w.heap.size w ((w.alloc (.cells #[.int .i64 (k : Int), .slice (some ⟨g, 0, none⟩) n cap, .int .i64 lo, .int .i64 hi] 64)).alloc (.cells #[.int .i64 0, .int .i64 0, .int .i64 0] 103)) := ((Below.refl w.heap.size w).alloc (Nat.le_refl _) _).alloc (by simp) _
  refine (HU.out _ hbA).mono ?_
  rintro e w1 ⟨rfl, hb1⟩
  have hkr := below_new hb1 (by simp)
  have hk1 := (hb1.block w.heap.size (by simp; omega)).trans ((Below.heap_alloc _ _ _ (by simp)).trans (heap_alloc_new w (.cells #[.int .i64 (k : Int), .slice (some ⟨g, 0, none⟩) n cap, .int .i64 lo, .int .i64 hi] 64)))
  rw [show (w.alloc (.cells #[.int .i64 (k : Int), .slice (some ⟨g, 0, none⟩) n cap, .int .i64 lo, .int .i64 hi] 64)).heap.size = w.heap.size + 1 by simp] at hkr
  have hB1 : Below w.heap.size w w1 := hbA.trans (hb1.mono hbA.size)
  have hsz1 : w.heap.size + 1 + 1 ≤ w1.heap.size := by have := hb1.size; simp at this; omega
  have HB1 := hid hB1
  have HK1 := hid hk1
  have HKR := hid hkr
  obtain ⟨e0, e1, e2, e3, ez⟩ := blk4 hk1
  obtain ⟨d0, d1, d2, dz⟩ := blk3 hkr
  clear hb1 hbA hk1 hkr hB1 HU
  by_cases h1 : q < lo
  · have hl0 := HL1.out
    have hh0 := HH1.out
    rw [if_pos h1] at hl0 hh0
    subst hl0 hh0
    clear HL1 HH1
    go_wp2_with fail
    refine bodyPost_ret (v := .agg #[.int .i64 0, .int .i64 (us : Int), .int .i64 0]) (by simp [results, Tryz.results75, go_sem, d0, d1, d2]) rfl ⟨rfl, below_set3 HB1.out (by omega) _ _ _⟩
  · rw [if_neg h1] at HL1 HH1
    go_wp2_with fail
    refine (HC.out _ HB1.out).mono ?_
    rintro e w2 ⟨rfl, hb2⟩
    have hk1 := (hb2.block w.heap.size (by omega)).trans HK1.out
    have hkr := (hb2.block (w.heap.size + 1) (by omega)).trans HKR.out
    have HK2 := hid hk1
    have HKR2 := hid hkr
    have hsz2 := hb2.size
    have HB2 : Hid (Below w.heap.size w w2) := HB1.out.trans (hb2.mono HB1.out.size)
    clear e0 e1 e2 e3 ez d0 d1 d2 dz
    obtain ⟨e0, e1, e2, e3, ez⟩ := blk4 hk1
    obtain ⟨d0, d1, d2, dz⟩ := blk3 hkr
    clear hb2 hk1 hkr HC HK1 HKR
    by_cases h2 : hi ≤ q
    · have hl0 := HL1.out
      have hh0 := HH1.out
      rw [if_pos h2] at hl0 hh0
      subst hl0 hh0
      clear HL1 HH1
      go_wp2_with fail
      refine bodyPost_ret (v := .agg #[.int .i64 (ws : Int), .int .i64 (us : Int), .int .i64 (ws : Int)]) (by simp [results, Tryz.results75, go_sem, d0, d1, d2]) rfl ⟨rfl, below_set3 HB2.out (by omega) _ _ _⟩
    · rw [if_neg h2] at HL1 HH1
      go_wp2_with fail
      refine (HLE.out _ HB2.out).mono ?_
      rintro e w3 ⟨gt, ct, rfl, hgt, hown3, hb3⟩
      have hkr := (hb3.block (w.heap.size + 1) (by omega)).trans HKR2.out
      have hsz3 := hb3.size
      have HB3 : Hid (Below w.heap.size w w3) := HB2.out.trans (hb3.mono HB2.out.size)
      clear e0 e1 e2 e3 ez d0 d1 d2 dz
      obtain ⟨d0, d1, d2, dz⟩ := blk3 hkr
      have hl0 := HL1.out
      have hh0 := HH1.out
      have hrz : w.heap.size + 1 < w3.heap.size := by omega
      have hrz2 : w.heap.size + 1 < w3.heap.size + 1 := by omega
      clear hb3 hkr HLE HK2 HKR2 hown3 HL1 HH1 hsz1 hsz2 hsz3
      by_cases h3 : (us : Int) - (es : Int) < 1
      · rw [if_pos h3] at hl0
        subst hl0
        by_cases h4 : (ws : Int) - 1 < (us : Int) + (es : Int)
        · rw [if_pos h4] at hh0
          subst hh0
          go_wp2_with fail
          refine bodyPost_ret (v := .agg #[.int .i64 1, .int .i64 (us : Int), .int .i64 ((ws : Int) - 1)]) (by simp [results, Tryz.results75, go_sem, d0, d1, d2, hrz, hrz2]) rfl ⟨rfl, ((below_set3 HB3.out (by omega) _ _ _).alloc (by simp only [setCell_size]; exact HB3.out.size) _).alloc (by simp only [World.size_alloc, setCell_size]; have := HB3.out.size; omega) _⟩
        · rw [if_neg h4] at hh0
          subst hh0
          go_wp2_with fail
          refine bodyPost_ret (v := .agg #[.int .i64 1, .int .i64 (us : Int), .int .i64 ((us : Int) + (es : Int))]) (by simp [results, Tryz.results75, go_sem, d0, d1, d2, hrz, hrz2]) rfl ⟨rfl, ((below_set3 HB3.out (by omega) _ _ _).alloc (by simp only [setCell_size]; exact HB3.out.size) _).alloc (by simp only [World.size_alloc, setCell_size]; have := HB3.out.size; omega) _⟩
      · rw [if_neg h3] at hl0
        subst hl0
        by_cases h4 : (ws : Int) - 1 < (us : Int) + (es : Int)
        · rw [if_pos h4] at hh0
          subst hh0
          go_wp2_with fail
          refine bodyPost_ret (v := .agg #[.int .i64 ((us : Int) - (es : Int)), .int .i64 (us : Int), .int .i64 ((ws : Int) - 1)]) (by simp [results, Tryz.results75, go_sem, d0, d1, d2, hrz, hrz2]) rfl ⟨rfl, ((below_set3 HB3.out (by omega) _ _ _).alloc (by simp only [setCell_size]; exact HB3.out.size) _).alloc (by simp only [World.size_alloc, setCell_size]; have := HB3.out.size; omega) _⟩
        · rw [if_neg h4] at hh0
          subst hh0
          go_wp2_with fail
          refine bodyPost_ret (v := .agg #[.int .i64 ((us : Int) - (es : Int)), .int .i64 (us : Int), .int .i64 ((us : Int) + (es : Int))]) (by simp [results, Tryz.results75, go_sem, d0, d1, d2, hrz, hrz2]) rfl ⟨rfl, ((below_set3 HB3.out (by omega) _ _ _).alloc (by simp only [setCell_size]; exact HB3.out.size) _).alloc (by simp only [World.size_alloc, setCell_size]; have := HB3.out.size; omega) _⟩

end Go.Proofs.YtklicjbpjigfdabGreat
