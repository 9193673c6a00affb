/- DERIVED. The walks of the statement's own off and within. -/
import Derived.Test.YtklicjbpjigfdabMc
import Derived.Test.YtklicjbpjigfdabMd
import Derived.Test.YtklicjbpjigfdabMy
import Derived.Test.YtklicjbpjigfdabMz
namespace Go.Proofs.Ytklicjbpjigfdab
open Go.RowKit
variable {K : Nat → Prop} {w0 : World} {nw : Nat}

theorem timesOf_getD (L : List Lvl) (j : Nat) (h : j < L.length) : (timesOf L).getD j 0 = ((L.getD j Lvl.none).times : Int) := by
  unfold timesOf
  simp [List.getD, h]
theorem timesOf_len (L : List Lvl) : (timesOf L).length = L.length := by simp [timesOf]

/-- The spread is small enough. -/
theorem ssum_small {h : Hd} {s : Sd} (hc : Came h s) (hro : Roomy h.sk.k h.sk.lv) : ssum h.sk.lv ≤ 1152921504606846976 := by
  have h1 := hro.ssum
  have h2 := hc.inok.ok.cnt
  have h3 : 2 ^ h.sk.lv.length ≤ 1073741824 := pow2_bd (by have := hc.inok.ok.len; omega)
  have h4 := Nat.mul_le_mul h3 h2
  omega

set_option maxHeartbeats 2000000 in
set_option maxRecDepth 100000 in
theorem off_any (p d i : Nat) (ps : Nat → Nat) (W : Wd) (w : World) (h : WdSt K w0 w p d nw ps W) (hi : i < nw) (hl : W.D.sks.length = nw) (hc : Came (W.D.sks.getD i Hd.none) (W.sd i)) (hro : Roomy (W.D.sks.getD i Hd.none).sk.k (W.D.sks.getD i Hd.none).sk.lv) :
    Calls Try.prog 47 #[.pointer (some ⟨p, 0, none⟩), .int .i64 (i : Int)] w fun e w' => e = .returned (.tuple #[.int .i64 (esum (W.D.sks.getD i Hd.none).sk.lv : Int), .int .i64 (ssum (W.D.sks.getD i Hd.none).sk.lv : Int), .bool true]) ∧ Below w.heap.size w w' := by
  obtain ⟨own, vs, vx, vw, h, _⟩ := h
  obtain ⟨c0, c1, c2, c3, c4, c5, c6, cz⟩ := blk7 h.blk
  have hil : i < W.D.sks.length := by rw [hl]; exact hi
  have hss := ssum_small hc hro
  have HLE := hid (deskLedger d W.D i w h.desk hil hc.inok.ok hss)
  have hlen1 := hc.inok.ok.len1
  have hlen2 := hc.inok.ok.len
  have hel := esum_le (W.D.sks.getD i Hd.none).sk.lv
  generalize W.D.sks.getD i Hd.none = de at *
  generalize hlve : de.sk.lv = L at *
  generalize hlne : L.length = ln at *
  have HLN0 := hid hlne
  have g3 : decide ((ln : Int) < 1) = false := by simp; omega
  have g4 : decide ((29 : Int) < (ln : Int)) = false := by simp; omega
  clear h hc hlve hlne hil hl hro
  go_enter Try.func47, Try.ntmps47
  go_wp2_with fail
  refine HLE.out.mono ?_
  rintro e w2 ⟨gt, ct, rfl, hgt, hown, hb2⟩
  have hWB : Below w.heap.size w (w2.alloc (.cells #[.slice (some ⟨gt, 0, none⟩) ln ct, .int .i64 (esum L : Int), .int .i64 (ssum L : Int)] 131)) := hb2.alloc hb2.size _
  have hGB : (w2.alloc (.cells #[.slice (some ⟨gt, 0, none⟩) ln ct, .int .i64 (esum L : Int), .int .i64 (ssum L : Int)] 131)).heap[w2.heap.size]? = some (.cells #[.slice (some ⟨gt, 0, none⟩) ln ct, .int .i64 (esum L : Int), .int .i64 (ssum L : Int)] 131 (0, 0)) := heap_alloc_new w2 _
  have hTR := ownsRow_below hown ((Below.refl w2.heap.size w2).alloc (Nat.le_refl _) (.cells #[.slice (some ⟨gt, 0, none⟩) ln ct, .int .i64 (esum L : Int), .int .i64 (ssum L : Int)] 131)) (fun g e => ownsRow_lt hown e)
  have HTC : Hid (∀ t, t < ln → (w2.alloc (.cells #[.slice (some ⟨gt, 0, none⟩) ln ct, .int .i64 (esum L : Int), .int .i64 (ssum L : Int)] 131)).cell? ⟨gt, t, none⟩ = some (.int .i64 ((L.getD t Lvl.none).times : Int))) := by
    intro t ht
    refine ownsRow_cell hTR ?_
    have h1 : t < (timesOf L).length := by rw [timesOf_len, HLN0.out]; exact ht
    rw [← timesOf_getD L t (by rw [HLN0.out]; exact ht)]
    simp [ints, List.getD, h1]
  have HGT := ownsRow_lt hTR rfl
  clear hown hTR hb2 hgt HLE c0 c1 c2 c3 c4 c5 c6 cz
  go_wp2_with fail
  generalize w2.alloc (.cells #[.slice (some ⟨gt, 0, none⟩) ln ct, .int .i64 (esum L : Int), .int .i64 (ssum L : Int)] 131) = WB at *
  generalize w2.heap.size = gb at *
  obtain ⟨z0, z1, z2, zz⟩ := blk3 hGB
  have HWB := hid hWB
  clear hWB hGB g3 g4
  go_loop [9, 10, 11] (fun sa sb si => ∃ j a b : Nat, j ≤ ln ∧ si = .int .i64 j ∧ sa = .int .i64 a ∧ sb = .int .i64 b ∧ Hid (a + 2 ^ j * esum (L.drop j) = esum L) ∧ Hid (b + 2 ^ j * 2 ^ j * ssum (L.drop j) = ssum L)) (fun _ _ si => ln - (intOf si).toNat)
  case atStart => exact ⟨0, 0, 0, Nat.zero_le _, rfl, rfl, rfl, by simp [Hid], by simp [Hid]⟩
  case round =>
    obtain ⟨j, a, b, hj, rfl, rfl, rfl, Ha, Hb⟩ := hrel
    by_cases hlt : j < ln
    · have hlt' : j < L.length := by rw [HLN0.out]; exact hlt
      have hcell := HTC.out j hlt
      have HE := hid (estep hlt' Ha.out)
      have HS := hid (sstep hlt' Hb.out)
      have HP2 : Hid (2 ^ (j + 1) = 2 ^ j * 2) := Nat.pow_succ ..
      have b2 := pow2_bd (j := j) (by omega)
      have HPW := hid (fun (w' : World) => power_any j w' (by omega))
      generalize (L.getD j Lvl.none).times = tm at *
      generalize 2 ^ j = pw at *
      have hs1 : (0 : Int) ≤ (j : Int) := by omega
      have hs2 : (j : Int) < (ln : Int) := by omega
      have n1 := mul_nn pw tm
      have n2 := mul_nn pw pw
      have m1 : (a : Int) + (pw : Int) * (tm : Int) ≤ 1152921504606846976 := by
        have := HE.out
        rw [← Int.natCast_mul]
        generalize pw * tm = x at *
        omega
      have m2 : (pw : Int) * (pw : Int) ≤ 1152921504606846976 := by
        have := mul_bd b2 b2
        exact Int.le_trans this (by decide)
      have n3 : 0 ≤ (pw : Int) * (pw : Int) * (tm : Int) := Int.mul_nonneg n2 (by omega)
      have m3 : (b : Int) + (pw : Int) * (pw : Int) * (tm : Int) ≤ 1152921504606846976 := by
        have := HS.out
        rw [← Int.natCast_mul, ← Int.natCast_mul]
        generalize pw * pw * tm = x at *
        omega
      clear Ha Hb
      go_wp2_with (first | (go_at_call 45; refine (HPW.out _).mono ?_; rintro e w' ⟨rfl, hw⟩; obtain rfl := hw.symm))
      go_round
      case rel =>
        refine ⟨j + 1, a + pw * tm, b + pw * pw * tm, by omega, by go_num, by rw [Int.natCast_add, Int.natCast_mul], by rw [Int.natCast_add, Int.natCast_mul, Int.natCast_mul], ?_, ?_⟩
        · rw [HP2.out]; exact HE
        · rw [HP2.out]; exact HS
      case measure => simp [intOf]; omega
    · have ea : a = esum L := by have := esum_end L j (by rw [HLN0.out]; omega); have h2 := Ha.out; rw [this] at h2; omega
      have eb : b = ssum L := by have := ssum_end L j (by rw [HLN0.out]; omega); have h2 := Hb.out; rw [this] at h2; omega
      subst ea eb
      have e1 : (((esum L : Nat) : Int) == ((esum L : Nat) : Int)) = true := by simp
      have e2 : (((ssum L : Nat) : Int) == ((ssum L : Nat) : Int)) = true := by simp
      generalize hes : esum L = es at *
      generalize hssm : ssum L = ss at *
      have HES := hid hes
      have HSS := hid hssm
      clear Ha Hb hes hssm
      go_wp2_with fail
      go_quiet (fail)
      go_wp2_with fail
      go_ret3
      exact ⟨by rw [HES.out, HSS.out]; simp, below_drewN HWB.out _⟩

theorem esum_zero : ∀ {L : List Lvl}, tsum L = 0 → esum L = 0
  | [], _ => rfl
  | l :: L, h => by
    simp only [tsum] at h
    have := esum_zero (L := L) (by omega)
    simp only [esum]; omega
theorem wFilter_pos {p : Int → Bool} {x : Int} : ∀ {xs : List Int} {ws : List Nat}, xs.length = ws.length → (∀ v ∈ ws, 1 ≤ v) → x ∈ xs → p x = true → 1 ≤ wFilter p xs ws
  | [], _, _, _, hx, _ => by simp at hx
  | y :: xs, [], hl, _, _, _ => by simp at hl
  | y :: xs, w :: ws, hl, hw, hx, hp => by
    rw [wFilter]
    rcases List.mem_cons.1 hx with rfl | hx
    · rw [hp]; have := hw w (by simp); simp; omega
    · have := wFilter_pos (p := p) (xs := xs) (ws := ws) (by simpa using hl) (fun v hv => hw v (by simp [hv])) hx hp
      omega
theorem wFilter_miss {p : Int → Bool} {x : Int} : ∀ {xs : List Int} {ws : List Nat}, xs.length = ws.length → (∀ v ∈ ws, 1 ≤ v) → x ∈ xs → p x = false → wFilter p xs ws + 1 ≤ wAll ws
  | [], _, _, _, hx, _ => by simp at hx
  | y :: xs, [], hl, _, _, _ => by simp at hl
  | y :: xs, w :: ws, hl, hw, hx, hp => by
    rw [wFilter, wAll]
    rcases List.mem_cons.1 hx with rfl | hx
    · have := wFilter_le p xs ws
      rw [hp]; have := hw w (by simp); simp; omega
    · have := wFilter_miss (p := p) (xs := xs) (ws := ws) (by simpa using hl) (fun v hv => hw v (by simp [hv])) hx hp
      split <;> omega

/-- What Rank tells holds. -/
theorem rank_holds {h : Hd} {s : Sd} {q : Int} (hc : Came h s) (hn : Near q h.sk.lv (wFilter (fun x => decide (x ≤ q)) s.xs s.ws)) (h0 : s.n ≠ 0) :
    0 ≤ rkLow q h.sk.lv h.sk.lo h.sk.hi ∧ rkLow q h.sk.lv h.sk.lo h.sk.hi ≤ (wFilter (fun x => decide (x ≤ q)) s.xs s.ws : Int) ∧ (wFilter (fun x => decide (x ≤ q)) s.xs s.ws : Int) ≤ rkHigh q h.sk.lv h.sk.lo h.sk.hi ∧ rkHigh q h.sk.lv h.sk.lo h.sk.hi ≤ (wsum h.sk.lv : Int) ∧ rkHigh q h.sk.lv h.sk.lo h.sk.hi - rkLow q h.sk.lv h.sk.lo h.sk.hi ≤ 2 * (esum h.sk.lv : Int) := by
  obtain ⟨n1, n2⟩ := hn
  have hw := hc.inok.n
  have hs := hc.sum
  rcases hc.ends with e | ⟨m1, m2, m3⟩
  · exact absurd e h0
  · have hle := wFilter_le (fun x => decide (x ≤ q)) s.xs s.ws
    unfold rkLow rkHigh
    by_cases h1 : q < h.sk.lo
    · have hr : wFilter (fun x => decide (x ≤ q)) s.xs s.ws = 0 := wFilter_none _ _ _ (fun x hx => by have := m3 x hx; simp; omega)
      simp only [if_pos h1, hr]; omega
    · simp only [if_neg h1]
      by_cases h2 : h.sk.hi ≤ q
      · have hr : wFilter (fun x => decide (x ≤ q)) s.xs s.ws = wAll s.ws := wFilter_all _ _ _ hc.len (fun x hx => by have := m3 x hx; simp; omega)
        simp only [if_pos h2, hr]; omega
      · have p1 := wFilter_pos (p := fun x => decide (x ≤ q)) hc.len hc.pos m1 (by simp; omega)
        have p2 := wFilter_miss (p := fun x => decide (x ≤ q)) hc.len hc.pos m2 (by simp; omega)
        simp only [if_neg h2]
        generalize wFilter (fun x => decide (x ≤ q)) s.xs s.ws = r at *
        split <;> split <;> omega

set_option maxHeartbeats 2000000 in
set_option maxRecDepth 100000 in
theorem within_gen (p d i : Nat) (q : Int) (ps : Nat → Nat) (W : Wd) (w : World) (h : WdSt K w0 w p d nw ps W) (hi : i < nw) (hlen : W.D.sks.length = nw) (hc : Came (W.D.sks.getD i Hd.none) (W.sd i)) (hro : Roomy (W.D.sks.getD i Hd.none).sk.k (W.D.sks.getD i Hd.none).sk.lv) (hne : Near q (W.D.sks.getD i Hd.none).sk.lv (wFilter (fun x => decide (x ≤ q)) (W.sd i).xs (W.sd i).ws)) :
    Calls Try.prog 16 #[.pointer (some ⟨p, 0, none⟩), .int .i64 (i : Int), .int .i64 q] w fun e w' => e = .returned (.bool true) ∧ Below w.heap.size w w' := by
  have HOF := hid (off_any p d i ps W w h hi hlen hc hro)
  obtain ⟨own, vs, vx, vw, h, _⟩ := h
  obtain ⟨gs, cs0, evs, hptr⟩ := h.ptr hi
  obtain ⟨c0, c1, c2, c3, c4, c5, c6, cz⟩ := blk7 h.blk
  rw [evs] at c1
  have hil : i < W.D.sks.length := by rw [hlen]; exact hi
  have hss := ssum_small hc hro
  have HRK := hid (fun (w' : World) (hb : Below w.heap.size w w') => deskRank d W.D i q w' (h.desk.below hb) hil hc.inok.ok (fun j _ => (hc.lvok.at j).1) hss)
  have HUP := hid (fun (w' : World) (hb : Below w.heap.size w w') => upTo_any (ps i) (W.sd i) (vx i) (vw i) q w' ((h.side i hi).below hb) (by have := hc.inok.xl; omega) (by rw [hc.sum, hc.inok.n]; have := hc.inok.ok.cnt; omega))
  have hel := esum_le (W.D.sks.getD i Hd.none).sk.lv
  have hub := usum_le q (W.D.sks.getD i Hd.none).sk.lv
  have hcnt := hc.inok.ok.cnt
  have hnw := hc.inok.n
  have HRH : Hid ((W.sd i).n ≠ 0 → _) := fun h0 => rank_holds hc hne h0
  have HE0 : Hid ((W.sd i).n = 0 → esum (W.D.sks.getD i Hd.none).sk.lv = 0) := fun h0 => esum_zero (by have := hc.tn; omega)
  have HNE := hid hne
  have HPB := hid h.blk
  have hpz := lt_of_blk' h.blk
  have HSD := hid (h.side i hi).blk
  have hsz := lt_of_blk' (h.side i hi).blk
  have hle := wFilter_le (fun x => decide (x ≤ q)) (W.sd i).xs (W.sd i).ws
  rw [hc.sum] at hle
  have hs1 : (0 : Int) ≤ (i : Int) := by omega
  have hs2 : (i : Int) < (nw : Int) := by omega
  unfold Near at HNE
  generalize hwf : wFilter (fun x => decide (x ≤ q)) (W.sd i).xs (W.sd i).ws = r at *
  generalize W.D.sks.getD i Hd.none = de at *
  generalize rkLow q de.sk.lv de.sk.lo de.sk.hi = rl at *
  generalize rkHigh q de.sk.lv de.sk.lo de.sk.hi = rh at *
  generalize usum q de.sk.lv = us at *
  generalize esum de.sk.lv = es at *
  generalize wsum de.sk.lv = ws at *
  generalize ps i = pi at *
  generalize hn9 : (W.sd i).n = sn at *
  clear hc hro hne h evs hwf
  go_enter Try.func16, Try.ntmps16
  go_wp2_with fail
  refine HOF.out.mono ?_
  rintro e w1 ⟨rfl, hb1⟩
  have hp1 := (hb1.block _ hpz).trans HPB.out
  clear c0 c1 c2 c3 c4 c5 c6 cz
  obtain ⟨c0, c1, c2, c3, c4, c5, c6, cz⟩ := blk7 hp1
  have HB1 := hid hb1
  clear hb1 hp1 HOF
  go_wp2_with fail
  refine (HRK.out _ HB1.out).mono ?_
  rintro e w2 ⟨he, hb2⟩
  have hb9 : Below w.heap.size w w2 := HB1.out.trans (hb2.mono HB1.out.size)
  have hs2' := (hb9.block _ hsz).trans HSD.out
  have s2' : w2.cell? ⟨pi, 2, none⟩ = some (.int .i64 (sn : Int)) := (blk6 hs2').2.2.1
  have HB2 := hid hb9
  have hpi2 : pi < w2.heap.size := lt_of_blk' hs2'
  clear hb2 hb9 hs2' HRK c0 c1 c2 c3 c4 c5 c6 cz hn9
  by_cases h0 : sn = 0
  · have hw0 : ws = 0 := by omega
    rw [if_pos hw0] at he
    subst he
    have he0 := HE0.out h0
    subst h0
    subst he0
    clear HE0 HRH hnw
    go_wp2_with fail
    go_ret
    exact ⟨by simp, HB2.out.alloc HB2.out.size _⟩
  · have hw0 : ¬ ws = 0 := by omega
    rw [if_neg hw0] at he
    subst he
    obtain ⟨a1, a2, a3, a4, a5⟩ := HRH.out h0
    have h0' : ((sn : Int) == 0) = false := by simpa using h0
    obtain ⟨b1, b2⟩ := HNE.out
    have f1 : decide ((us : Int) - (r : Int) ≤ (es : Int)) = true := decide_eq_true (by omega)
    have f2 : decide ((r : Int) - (us : Int) ≤ (es : Int)) = true := decide_eq_true (by omega)
    have f3 : decide (rl ≤ (r : Int)) = true := decide_eq_true a2
    have f4 : decide ((r : Int) ≤ rh) = true := decide_eq_true a3
    have f5 : decide (rh - rl ≤ 2 * (es : Int)) = true := decide_eq_true a5
    clear HE0 HRH HNE
    go_wp2_with fail
    refine (HUP.out _ (HB2.out.alloc HB2.out.size _)).mono ?_
    rintro e w' ⟨rfl, hw⟩
    obtain rfl := hw.symm
    clear hw HUP
    go_wp2_with fail
    go_ret
    exact ⟨rfl, HB2.out.alloc HB2.out.size _⟩

theorem within_any (p d i : Nat) (q : Int) (ps : Nat → Nat) (W : Wd) (w : World) (h : WdSt K w0 w p d 3 ps W) (hi : i < 3) (hm : MInv W) :
    Calls Try.prog 16 #[.pointer (some ⟨p, 0, none⟩), .int .i64 (i : Int), .int .i64 q] w fun e w' => e = .returned (.bool true) ∧ Below w.heap.size w w' :=
  within_gen p d i q ps W w h hi hm.len (hm.came i hi) (hm.roomy i hi) (hm.near i hi q)

end Go.Proofs.Ytklicjbpjigfdab
