/- DERIVED. Small walks of the statements by the document's answer: pick, sameInts, num, looks, writes. -/
import Derived.Test.YtklicjbpjigfdabGreatQ16
import Derived.Test.YtklicjbpjigfdabGreatQ17
import Derived.Deep.RegionHeld3
namespace Go.Proofs.YtklicjbpjigfdabGreat
open Go.RowKit
attribute [local go_sem ↓] Go.wp_at_zero Go.wp_at_succ

/-- Which of n things a raw number speaks of. -/
def lpN (c : Int) (n : Nat) : Nat := ((if c < 0 then -(c + 1) else c) % (n : Int)).toNat
theorem lpN_lt (c : Int) {n : Nat} (h : 0 < n) : lpN c n < n := by
  unfold lpN
  have := Int.emod_lt_of_pos (if c < 0 then -(c + 1) else c) (show (0 : Int) < (n : Int) by omega)
  have := Int.emod_nonneg (if c < 0 then -(c + 1) else c) (show (n : Int) ≠ 0 by omega)
  omega

set_option maxHeartbeats 400000 in
theorem lpick_any (c : Int) (n : Nat) (w : World) (hc : -9223372036854775808 ≤ c ∧ c ≤ 9223372036854775807) (hn : 0 < n) (hn2 : n ≤ 9223372036854775807) :
    Calls Tryz.prog 55 #[.int .i64 c, .int .i64 (n : Int)] w fun e w' => e = .returned (.int .i64 (lpN c n : Int)) ∧ w' = w := by
  have h0 : ((n : Int) == 0) = false := by simp; omega
  by_cases h : c < 0
  · have h' : decide (c < 0) = true := decide_eq_true h
    have HF : Hid ((lpN c n : Int) = -(c + 1) % (n : Int)) := by
      unfold Hid lpN
      rw [if_pos h, Int.toNat_of_nonneg (Int.emod_nonneg _ (by omega))]
    have hm := Int.emod_lt_of_pos (-(c + 1)) (show (0 : Int) < (n : Int) by omega)
    have hm2 := Int.emod_nonneg (-(c + 1)) (show (n : Int) ≠ 0 by omega)
    generalize lpN c n = r at *
    go_enter Tryz.func55, Tryz.ntmps55
    go_wp2_with fail
    go_ret
    exact ⟨ret_int (by rw [HF.out, ← Int.neg_tmod, Int.tmod_eq_emod_of_nonneg (by omega)]), rfl⟩
  · have h' : decide (c < 0) = false := decide_eq_false h
    have HF : Hid ((lpN c n : Int) = c % (n : Int)) := by
      unfold Hid lpN
      rw [if_neg h, Int.toNat_of_nonneg (Int.emod_nonneg _ (by omega))]
    have hm := Int.emod_lt_of_pos c (show (0 : Int) < (n : Int) by omega)
    have hm2 := Int.emod_nonneg c (show (n : Int) ≠ 0 by omega)
    generalize lpN c n = r at *
    go_enter Tryz.func55, Tryz.ntmps55
    go_wp2_with fail
    go_ret
    exact ⟨ret_int (by rw [HF.out]), rfl⟩

theorem lnum_any (c : Int) (w : World) : Calls Tryz.prog 11 #[.int .i64 c] w fun e w' => e = .returned (.int .i64 c) ∧ w' = w := by
  go_enter Tryz.func11, Tryz.ntmps11
  go_wp2_with fail
  go_ret
  exact ⟨rfl, rfl⟩

theorem Ints.gen {w : World} {ao : Option Addr} {n cap : Nat} {xs : List Int} (h : Ints w (.slice ao n cap) xs) : IntsG w ao n xs :=
  ⟨h.len.symm, fun i hi => by
    obtain ⟨g, e, hg, hc⟩ := h.cell (t := i) (by rw [← h.len]; exact hi)
    exact ⟨g, 0, e, hg, by rw [Nat.zero_add]; exact hc⟩⟩

set_option maxHeartbeats 1000000 in
theorem lsame_any (ao bo : Option Addr) (n c1 c2 : Nat) (C : List Int) (w : World) (hA : IntsG w ao n C) (hB : IntsG w bo n C) (hn : n ≤ 17592186044416) :
    Calls Tryz.prog 21 #[.slice ao n c1, .slice bo n c2] w fun e w' => e = .returned (.bool true) ∧ Below w.heap.size w w' := by
  have HA := hid hA
  have HB := hid hB
  have h0 : ((n : Int) != (n : Int)) = false := by simp
  clear hA hB
  go_enter Tryz.func21, Tryz.ntmps21
  go_wp2_with fail
  go_loopw [5] (fun si wr => ∃ j : Nat, j ≤ n ∧ si = .int .i64 (j : Int) ∧ Hid (Below w.heap.size w wr)) (fun si _ => n - (intOf si).toNat)
  case atStart => exact ⟨0, Nat.zero_le _, rfl, Below.refl _ _⟩
  case round =>
    obtain ⟨j, hj, rfl, Hb⟩ := hrel
    by_cases hlt : j < n
    · obtain ⟨b1, o1, rfl, z1, r1⟩ := HA.out.2 j hlt
      obtain ⟨b2, o2, rfl, z2, r2⟩ := HB.out.2 j hlt
      have r1' := (Hb.out.cell (p := ⟨b1, o1 + j, none⟩) z1).trans r1
      have r2' := (Hb.out.cell (p := ⟨b2, o2 + j, none⟩) z2).trans r2
      have z1' := Nat.lt_of_lt_of_le z1 Hb.out.size
      have z2' := Nat.lt_of_lt_of_le z2 Hb.out.size
      have hs1 : (0 : Int) ≤ (j : Int) := by omega
      have hs2 : (j : Int) < (n : Int) := by omega
      generalize C.getD j 0 = y at *
      have hy : (y != y) = false := by simp
      clear r1 r2
      go_wp2_with fail
      go_quiet (fail)
      go_wp2_with fail
      go_roundw
      case rel => exact ⟨j + 1, by omega, by go_num, below_drewN Hb.out _⟩
      case measure => simp [intOf]; omega
    · go_wp2_with fail
      go_ret
      exact ⟨rfl, Hb.out⟩

/-- A list that came out, as it lies. -/
theorem LwIn.at {own : Nat → Nat} {w : World} {p pd pr : Nat} {D E : Dk} {vs vw : Value} {M : List Le} (h : LwIn own w p pd pr D E vs vw M) {i : Nat} (hi : i < M.length) : ∃ a ca b cb, vs = .slice (some ⟨a, 0, none⟩) M.length ca ∧ vw = .slice (some ⟨b, 0, none⟩) M.length cb ∧ a < w.heap.size ∧ b < w.heap.size ∧ w.cell? ⟨a, i, none⟩ = some (M.getD i Le.none).sv ∧ w.cell? ⟨b, i, none⟩ = some (M.getD i Le.none).wv := by
  have e1 : (M.map Le.sv)[i]? = some (M.getD i Le.none).sv := by simp [List.getD, hi]
  have e2 : (M.map Le.wv)[i]? = some (M.getD i Le.none).wv := by simp [List.getD, hi]
  rcases h.rowS.2 with ⟨_, hn⟩ | ⟨a, ca, _, rfl, _⟩
  · omega
  · rcases h.rowW.2 with ⟨_, hn⟩ | ⟨b, cb, _, rfl, _⟩
    · omega
    · exact ⟨a, ca, b, cb, rfl, rfl, ownsRow_lt h.rowS rfl, ownsRow_lt h.rowW rfl, ownsRow_cell h.rowS e1, ownsRow_cell h.rowW e2⟩
theorem LwIn.sform {own : Nat → Nat} {w : World} {p pd pr : Nat} {D E : Dk} {vs vw : Value} {M : List Le} (h : LwIn own w p pd pr D E vs vw M) : (∃ a c, vs = .slice a M.length c) ∧ ∃ a c, vw = .slice a M.length c := by
  constructor
  · rcases h.rowS.2 with ⟨e, hn⟩ | ⟨a, ca, _, e, _⟩
    · exact ⟨none, 0, by rw [e, hn]⟩
    · exact ⟨_, _, e⟩
  · rcases h.rowW.2 with ⟨e, hn⟩ | ⟨a, ca, _, e, _⟩
    · exact ⟨none, 0, by rw [e, hn]⟩
    · exact ⟨_, _, e⟩

set_option maxHeartbeats 1000000 in
theorem looks_any (p pd pr : Nat) (D E : Dk) (M : List Le) (w0 w : World) (h : LwSt w0 w p pd pr D E M) (hm : M.length ≤ 4398046511104) (hx : ∀ i, i < M.length → (M.getD i Le.none).xs.length ≤ 1099511627776) :
    Calls Tryz.prog 8 #[.pointer (some ⟨p, 0, none⟩)] w fun e w' => e = .returned (.bool true) ∧ Below w.heap.size w w' := by
  obtain ⟨own, vs, vw, h, _, _⟩ := h
  obtain ⟨⟨sa, sc, rfl⟩, wa, wc', rfl⟩ := h.sform
  have HI := hid h
  have HX := hid hx
  have hbk := h.blk
  have HBK := hid hbk
  have hpz := lt_of_blk' hbk
  generalize hn : M.length = n at *
  have HN := hid hn
  clear h hx hbk hn
  go_enter Tryz.func8, Tryz.ntmps8
  go_wp2_with fail
  go_loopw [3] (fun si wr => ∃ j : Nat, j ≤ n ∧ si = .int .i64 (j : Int) ∧ Hid (Below w.heap.size w wr)) (fun si _ => n - (intOf si).toNat)
  case atStart => exact ⟨0, Nat.zero_le _, rfl, Below.refl _ _⟩
  case round =>
    obtain ⟨j, hj, rfl, Hb⟩ := hrel
    have hb := (Hb.out.block p hpz).trans HBK.out
    obtain ⟨c0, c1, c2, c3, cz⟩ := blk4 hb
    have hpz' := lt_of_blk' hb
    clear hb
    by_cases hlt : j < n
    · obtain ⟨a, ca, b, cb, e1, e2, ha, hb, ra, rb⟩ := HI.out.at (i := j) (by rw [HN.out]; exact hlt)
      have x1 : sa = some ⟨a, 0, none⟩ := by injection e1
      have x2 : wa = some ⟨b, 0, none⟩ := by injection e2
      subst x1
      subst x2
      clear e1 e2
      have hi := HI.out.below Hb.out
      have HSM := hid (fun (w' : World) (hb' : Below wr.heap.size wr w') => lsame_any (some ⟨(M.getD j Le.none).g, 0, none⟩) (some ⟨(M.getD j Le.none).h, 0, none⟩) (M.getD j Le.none).xs.length (M.getD j Le.none).xs.length (M.getD j Le.none).xs.length (M.getD j Le.none).xs w' ((hi.itS j (by rw [HN.out]; exact hlt)).gen.below hb') ((hi.itW j (by rw [HN.out]; exact hlt)).gen.below hb') (Nat.le_trans (HX.out j hlt) (by decide)))
      have ra' := (Hb.out.cell (p := ⟨a, j, none⟩) ha).trans ra
      have rb' := (Hb.out.cell (p := ⟨b, j, none⟩) hb).trans rb
      rw [Le.sv] at ra'
      rw [Le.wv] at rb'
      have ha' := Nat.lt_of_lt_of_le ha Hb.out.size
      have hb' := Nat.lt_of_lt_of_le hb Hb.out.size
      have hs1 : (0 : Int) ≤ (j : Int) := by omega
      have hs2 : (j : Int) < (n : Int) := by omega
      generalize (M.getD j Le.none).g = g at *
      generalize (M.getD j Le.none).h = hh at *
      generalize (M.getD j Le.none).xs.length = l at *
      have hS0 : wr.drew.cell? ⟨p, 2, none⟩ = some (.slice (some ⟨a, 0, none⟩) n sc) ∧ wr.drew.cell? ⟨p, 3, none⟩ = some (.slice (some ⟨b, 0, none⟩) n wc') ∧ wr.drew.cell? ⟨a, j, none⟩ = some (.slice (some ⟨g, 0, none⟩) l l) ∧ wr.drew.cell? ⟨b, j, none⟩ = some (.slice (some ⟨hh, 0, none⟩) l l) := ⟨c2, c3, ra', rb'⟩
      clear hi ra rb
      go_wp2_with fail
      go_region_held3 (fun w' => w'.cell? ⟨p, 2, none⟩ = some (.slice (some ⟨a, 0, none⟩) n sc) ∧ w'.cell? ⟨p, 3, none⟩ = some (.slice (some ⟨b, 0, none⟩) n wc') ∧ w'.cell? ⟨a, j, none⟩ = some (.slice (some ⟨g, 0, none⟩) l l) ∧ w'.cell? ⟨b, j, none⟩ = some (.slice (some ⟨hh, 0, none⟩) l l)) (first | with_reducible exact hS0 | with_reducible exact hS3 | go_keep) (first | (go_at_call 21; refine Calls.mono (HSM.out _ ?_) ?_; exact ⟨rfl, rfl, rfl, Nat.le_refl _, fun b hb => rfl⟩; rintro e w3 ⟨rfl, hb3⟩; have hS3 : w3.cell? ⟨p, 2, none⟩ = some (.slice (some ⟨a, 0, none⟩) n sc) ∧ w3.cell? ⟨p, 3, none⟩ = some (.slice (some ⟨b, 0, none⟩) n wc') ∧ w3.cell? ⟨a, j, none⟩ = some (.slice (some ⟨g, 0, none⟩) l l) ∧ w3.cell? ⟨b, j, none⟩ = some (.slice (some ⟨hh, 0, none⟩) l l) := ⟨(hb3.cell (p := ⟨p, 2, none⟩) hpz').trans c2, (hb3.cell (p := ⟨p, 3, none⟩) hpz').trans c3, (hb3.cell (p := ⟨a, j, none⟩) ha').trans ra', (hb3.cell (p := ⟨b, j, none⟩) hb').trans rb'⟩))
      have HB3 := hid (Hb.out.trans ((undrew hb3).mono Hb.out.size))
      clear hb3 hS3 hS0
      go_wp2_with fail
      go_roundw
      case rel => exact ⟨j + 1, by omega, by go_num, HB3⟩
      case measure => simp [intOf]; omega
    · go_wp2_with fail
      go_ret
      exact ⟨rfl, Hb.out⟩

end Go.Proofs.YtklicjbpjigfdabGreat

/- DERIVED. A list that came out is kept. -/
namespace Go.Proofs.YtklicjbpjigfdabGreat
open Go.RowKit
attribute [local go_sem ↓] Go.wp_at_zero Go.wp_at_succ

theorem Tryz.infoInts : (Tryz.prog.info? 28).map (fun i => (i.zero, i.size, i.bytes)) = some (some (.slice none 0 0), 1, 24) := by kernel_rfl
theorem one_sl (a : Option Addr) (n c : Nat) : ∀ u ∈ [Value.slice a n c], u.oneCell' = true := by
  intro u hu
  simp at hu
  subst hu
  rfl

/-- A list more. -/
theorem LwIn.push {own : Nat → Nat} {w wa w1 w3 : World} {p pd pr g h g1 c1 g3 c3 n : Nat} {D E : Dk} {vs vw : Value} {M : List Le} {xs : List Int} {o o' : Obj} (k : LwIn own w p pd pr D E vs vw M) (hn : M.length = n) (hg0 : own g = 0) (hg : Ints w (.slice (some ⟨g, 0, none⟩) xs.length xs.length) xs) (hp : 0 < xs.length)
    (hwa : Below w.heap.size w wa) (hh : w.heap.size ≤ h) (hha : wa.ownsRow 0 3 1 (.slice (some ⟨h, 0, none⟩) xs.length xs.length) xs.length (ints xs))
    (hown1 : w1.ownsRow 0 28 1 (.slice (some ⟨g1, 0, none⟩) (n + 1) c1) (n + 1) (M.map Le.sv ++ [.slice (some ⟨g, 0, none⟩) xs.length xs.length])) (hgrow1 : (wa.alloc o).grownBy w1 vs.ownBlock) (hat1 : vs.ownBlock = some g1 ∨ wa.heap.size ≤ g1)
    (hown3 : w3.ownsRow 0 28 1 (.slice (some ⟨g3, 0, none⟩) (n + 1) c3) (n + 1) (M.map Le.wv ++ [.slice (some ⟨h, 0, none⟩) xs.length xs.length])) (hgrow3 : ((w1.setCell ⟨p, 2, none⟩ (.slice (some ⟨g1, 0, none⟩) (n + 1) c1)).alloc o').grownBy w3 vw.ownBlock) (hat3 : vw.ownBlock = some g3 ∨ w1.heap.size ≤ g3) :
    ∃ own', LwIn own' (w3.setCell ⟨p, 3, none⟩ (.slice (some ⟨g3, 0, none⟩) (n + 1) c3)) p pd pr D E (.slice (some ⟨g1, 0, none⟩) (n + 1) c1) (.slice (some ⟨g3, 0, none⟩) (n + 1) c3) (M ++ [⟨g, h, xs⟩]) ∧ (∀ b, own' b ≠ 0 → own b ≠ 0 ∨ b = g ∨ w.heap.size ≤ b) ∧ Fr (fun b => own b ≠ 0) w (w3.setCell ⟨p, 3, none⟩ (.slice (some ⟨g3, 0, none⟩) (n + 1) c3)) := by
  subst hn
  have hpz := lt_of_blk' k.blk
  have z1 : wa.heap.size ≤ w1.heap.size := Nat.le_trans (by simp) hgrow1.size
  have z3 : w1.heap.size ≤ w3.heap.size := Nat.le_trans (by simp) hgrow3.size
  have hgz : g < w.heap.size := ownsRow_lt hg rfl
  have hhz : h < wa.heap.size := ownsRow_lt hha rfl
  have hop := k.op
  have hpS : vs.ownBlock ≠ some p := fun e => by have := k.oS p e; omega
  have hpW : vw.ownBlock ≠ some p := fun e => by have := k.oW p e; omega
  have ne1 : g1 ≠ p := by
    intro e; subst e
    rcases hat1 with e | e
    · exact hpS e
    · have := hwa.size; omega
  have ne3 : g3 ≠ p := by
    intro e; subst e
    rcases hat3 with e | e
    · exact hpW e
    · have := hwa.size; omega
  -- what lies as it did, from w on
  have s1 : ∀ b, b < wa.heap.size → vs.ownBlock ≠ some b → w1.heap[b]? = wa.heap[b]? := fun b hb hv => (hgrow1.block b (by simp; omega) (fun e => hv e.symm)).trans (Below.heap_alloc _ _ _ hb)
  have s3 : ∀ b, b < w1.heap.size → vw.ownBlock ≠ some b → b ≠ p → (w3.setCell ⟨p, 3, none⟩ (.slice (some ⟨g3, 0, none⟩) (M.length + 1) c3)).heap[b]? = w1.heap[b]? := fun b hb hv hbp => by
    rw [Below.heap_setCell _ _ _ _ hbp, hgrow3.block b (by simp; omega) (fun e => hv e.symm), Below.heap_alloc _ _ _ (by simpa using hb), Below.heap_setCell _ _ _ _ hbp]
  have sa : ∀ b, b < wa.heap.size → vs.ownBlock ≠ some b → vw.ownBlock ≠ some b → b ≠ p → (w3.setCell ⟨p, 3, none⟩ (.slice (some ⟨g3, 0, none⟩) (M.length + 1) c3)).heap[b]? = wa.heap[b]? := fun b hb hv hv2 hbp => (s3 b (by omega) hv2 hbp).trans (s1 b hb hv)
  have s0 : ∀ b, b < w.heap.size → own b ≠ 3 → own b ≠ 5 → own b ≠ 4 → (w3.setCell ⟨p, 3, none⟩ (.slice (some ⟨g3, 0, none⟩) (M.length + 1) c3)).heap[b]? = w.heap[b]? := fun b hb h3 h5 h4 => (sa b (by have := hwa.size; omega) (fun e => h3 (k.oS b e)) (fun e => h5 (k.oW b e)) (fun e => h4 (by rw [e]; exact hop))).trans (hwa.block b hb)
  have ng1 : own g1 = 3 ∨ wa.heap.size ≤ g1 := hat1.imp (k.oS g1) id
  have ng3 : own g3 = 5 ∨ w1.heap.size ≤ g3 := hat3.imp (k.oW g3) id
  have lg1 : g1 < w1.heap.size := ownsRow_lt hown1 rfl
  have lg3 : g3 < w3.heap.size := ownsRow_lt hown3 rfl
  have zwa := hwa.size
  have hlt := k.lt
  have oh : own h = 0 := by
    by_cases e : own h = 0
    · exact e
    · have := hlt h e; omega
  have n13 : g1 ≠ g3 := by
    intro e
    rcases ng1 with e1 | e1 <;> rcases ng3 with e3 | e3
    · rw [e] at e1; omega
    · have := hlt g1 (by omega); omega
    · have := hlt g3 (by omega); omega
    · omega
  have n1g : g1 ≠ g := by
    rintro rfl
    rcases ng1 with e1 | e1
    · omega
    · omega
  have n3g : g3 ≠ g := by
    rintro rfl
    rcases ng3 with e1 | e1
    · omega
    · omega
  have n1h : g1 ≠ h := by
    rintro rfl
    rcases ng1 with e1 | e1
    · omega
    · omega
  have n3h : g3 ≠ h := by
    rintro rfl
    rcases ng3 with e1 | e1
    · omega
    · omega
  have ngh : g ≠ h := by omega
  refine ⟨fun b => if b = g then 6 + 2 * M.length else if b = h then 7 + 2 * M.length else if b = g1 then 3 else if b = g3 then 5 else if own b = 3 ∨ own b = 5 then 0 else own b, ?_, ?_, ?_⟩
  · have ow : ∀ b, own b ≠ 0 → own b ≠ 3 → own b ≠ 5 → (if b = g then 6 + 2 * M.length else if b = h then 7 + 2 * M.length else if b = g1 then 3 else if b = g3 then 5 else if own b = 3 ∨ own b = 5 then 0 else own b) = own b := fun b h0 h3 h5 => by
      have := hlt b h0
      rw [if_neg (by rintro rfl; exact h0 hg0), if_neg (by rintro rfl; exact h0 oh), if_neg (by rintro rfl; rcases ng1 with e | e <;> omega), if_neg (by rintro rfl; rcases ng3 with e | e <;> omega), if_neg (by omega)]
    have ow1 : ∀ q, q = 1 ∨ q = 2 → (fun b => (if b = g then 6 + 2 * M.length else if b = h then 7 + 2 * M.length else if b = g1 then 3 else if b = g3 then 5 else if own b = 3 ∨ own b = 5 then 0 else own b) = q) = fun b => own b = q := fun q hq => pred_eq fun b => by
      constructor
      · intro e
        split at e
        · omega
        · split at e
          · omega
          · split at e
            · omega
            · split at e
              · omega
              · split at e
                · omega
                · exact e
      · intro e
        have := ow b (by omega) (by omega) (by omega)
        omega
    have hM : (M ++ [(⟨g, h, xs⟩ : Le)]).length = M.length + 1 := by simp
    have hatL : ∀ i, i < M.length → (M ++ [(⟨g, h, xs⟩ : Le)]).getD i Le.none = M.getD i Le.none := fun i hi => by simp [List.getD, List.getElem?_append, hi]
    have hatE : (M ++ [(⟨g, h, xs⟩ : Le)]).getD M.length Le.none = ⟨g, h, xs⟩ := by simp [List.getD]
    have hcase : ∀ i, i < (M ++ [(⟨g, h, xs⟩ : Le)]).length → i < M.length ∨ i = M.length := fun i hi => by rw [hM] at hi; omega
    refine ⟨?_, (ow p (by omega) (by omega) (by omega)).trans hop, ?_, ?_, ?_, ?_, fun b e => ?_, fun b e => ?_, fun i hi => ?_, fun i hi => ?_, fun i hi => ?_, fun i hi => ?_, fun i hi => ?_, fun b hb => ?_⟩
    · have b1 : w1.heap[p]? = some (lwBlk pd pr vs vw) := (s1 p (by omega) hpS).trans ((hwa.block p hpz).trans k.blk)
      have b2 := blk_set (i := 2) (.slice (some ⟨g1, 0, none⟩) (M.length + 1) c1) b1
      have b3 : w3.heap[p]? = some (lwBlk pd pr (.slice (some ⟨g1, 0, none⟩) (M.length + 1) c1) vw) := by
        rw [hgrow3.block p (by simp; omega) (fun e => hpW e.symm), Below.heap_alloc _ _ _ (by simp; omega)]
        simpa using b2
      have b4 := blk_set (i := 3) (.slice (some ⟨g3, 0, none⟩) (M.length + 1) c3) b3
      simpa using b4
    · rw [ow1 1 (.inl rfl)]
      exact k.desk.keep (by rw [setCell_size]; omega) (fun b hb => s0 b (hlt b (by omega)) (by omega) (by omega) (by omega))
    · rw [ow1 2 (.inr rfl)]
      exact k.ref.keep (by rw [setCell_size]; omega) (fun b hb => s0 b (hlt b (by omega)) (by omega) (by omega) (by omega))
    · rw [hM, List.map_append]
      refine ownsRow_block hown1 (fun b e => ?_)
      cases e
      refine s3 g1 lg1 (fun e => ?_) ne1
      have := k.oW g1 e
      rcases ng1 with e | e
      · omega
      · have := hlt g1 (by omega); omega
    · rw [hM, List.map_append]
      refine ownsRow_block hown3 (fun b e => ?_)
      cases e
      exact Below.heap_setCell _ _ _ _ ne3
    · cases e
      rw [if_neg n1g, if_neg n1h, if_pos rfl]
    · cases e
      rw [if_neg n3g, if_neg n3h, if_neg (Ne.symm n13), if_pos rfl]
    · rcases hcase i hi with hi | rfl
      · rw [hatL i hi]
        refine (k.itS i hi).block (fun b e => ?_)
        have e := Le.sv_own _ e
        subst e
        have := k.oG i hi
        exact s0 _ (hlt _ (by omega)) (by omega) (by omega) (by omega)
      · rw [hatE]
        refine hg.block (fun b e => ?_)
        cases e
        exact s0 g hgz (by omega) (by omega) (by omega)
    · rcases hcase i hi with hi | rfl
      · rw [hatL i hi]
        refine (k.itW i hi).block (fun b e => ?_)
        have e := Le.wv_own _ e
        subst e
        have := k.oH i hi
        exact s0 _ (hlt _ (by omega)) (by omega) (by omega) (by omega)
      · rw [hatE]
        refine Ints.block (Ints.of hha) (fun b e => ?_)
        cases e
        exact sa h hhz (fun e => by have := k.oS h e; omega) (fun e => by have := k.oW h e; omega) (fun e => by omega)
    · rcases hcase i hi with hi | rfl
      · rw [hatL i hi]
        have := k.oG i hi
        exact (ow _ (by omega) (by omega) (by omega)).trans this
      · rw [hatE]
        exact if_pos rfl
    · rcases hcase i hi with hi | rfl
      · rw [hatL i hi]
        have := k.oH i hi
        exact (ow _ (by omega) (by omega) (by omega)).trans this
      · rw [hatE]
        rw [if_neg (Ne.symm ngh), if_pos rfl]
    · rcases hcase i hi with hi | rfl
      · rw [hatL i hi]; exact k.pos i hi
      · rw [hatE]; exact hp
    · rw [setCell_size]
      by_cases e1 : b = g
      · omega
      · by_cases e2 : b = h
        · omega
        · by_cases e3 : b = g1
          · omega
          · by_cases e4 : b = g3
            · omega
            · rw [if_neg e1, if_neg e2, if_neg e3, if_neg e4] at hb
              by_cases e5 : own b = 3 ∨ own b = 5
              · rw [if_pos e5] at hb; exact absurd rfl hb
              · rw [if_neg e5] at hb
                have := hlt b hb; omega
  · intro b hb
    by_cases e0 : own b = 0
    · by_cases e1 : b = g
      · exact .inr (.inl e1)
      · refine .inr (.inr ?_)
        by_cases e2 : b = h
        · omega
        · by_cases e3 : b = g1
          · subst e3
            rcases ng1 with e | e <;> omega
          · by_cases e4 : b = g3
            · subst e4
              rcases ng3 with e | e <;> omega
            · exfalso
              simp only [if_neg e1, if_neg e2, if_neg e3, if_neg e4] at hb
              rw [if_neg (by omega)] at hb
              exact hb e0
    · exact .inl e0
  · refine ⟨?_, ?_, ?_, by rw [setCell_size]; omega, fun b hb hn => ?_⟩
    · exact (hgrow3.os.trans hgrow1.os).trans hwa.os
    · exact (hgrow3.tape.trans hgrow1.tape).trans hwa.tape
    · exact (hgrow3.output.trans hgrow1.output).trans hwa.output
    · have hn : own b = 0 := Decidable.not_not.1 hn
      exact s0 b hb (by omega) (by omega) (by omega)

theorem keep_zero (p n : Nat) (ao : Option Addr) (w : World) : Calls Tryz.prog 43 #[.pointer (some ⟨p, 0, none⟩), .slice ao n 0] w fun e w' => e = .returned (.tuple #[]) ∧ w' = w := by
  go_enter Tryz.func43, Tryz.ntmps43
  go_wp2_with fail
  exact bodyPost_ret (v := .tuple #[]) (by simp [results, Tryz.results43, go_sem]) rfl ⟨rfl, rfl⟩

/-- What keep leaves. -/
def KeepPost (own : Nat → Nat) (w : World) (p pd pr g : Nat) (D E : Dk) (M : List Le) (xs : List Int) (w' : World) : Prop :=
  ∃ own' vs' vw' h, LwIn own' w' p pd pr D E vs' vw' (M ++ [⟨g, h, xs⟩]) ∧ (∀ b, own' b ≠ 0 → own b ≠ 0 ∨ b = g ∨ w.heap.size ≤ b) ∧ Fr (fun b => own b ≠ 0) w w'

set_option maxHeartbeats 2000000 in
set_option maxRecDepth 100000 in
theorem keep_any (own : Nat → Nat) (p pd pr g : Nat) (D E : Dk) (vs vw : Value) (M : List Le) (xs : List Int) (w : World) (k : LwIn own w p pd pr D E vs vw M) (hg0 : own g = 0) (hg : Ints w (.slice (some ⟨g, 0, none⟩) xs.length xs.length) xs) (hp : 0 < xs.length) (hx : xs.length ≤ 1099511627776) (hm : M.length ≤ 4398046511104) :
    Calls Tryz.prog 43 #[.pointer (some ⟨p, 0, none⟩), .slice (some ⟨g, 0, none⟩) xs.length xs.length] w fun e w' => e = .returned (.tuple #[]) ∧ KeepPost own w p pd pr g D E M xs w' := by
  obtain ⟨i0, hi0, hz0, hz1, hz2⟩ := info_parts Tryz.infoInt
  obtain ⟨i1, hi1, hy0, hy1, hy2⟩ := info_parts Tryz.infoInts
  obtain ⟨⟨sa, sc, rfl⟩, wa9, wc9, rfl⟩ := k.sform
  have HK := hid k
  have HG := hid hg
  have HMK : Hid (∀ w', (∃ own' vs' vw' h, LwIn own' w' p pd pr D E vs' vw' (M ++ [⟨g, h, xs⟩]) ∧ (∀ b, own' b ≠ 0 → own b ≠ 0 ∨ b = g ∨ w.heap.size ≤ b) ∧ Fr (fun b => own b ≠ 0) w w') → KeepPost own w p pd pr g D E M xs w') := fun _ h => h
  have HPU := hid (fun (wa w1 w3 : World) (h g1 c1 g3 c3 : Nat) (o o' : Obj) => LwIn.push (wa := wa) (w1 := w1) (w3 := w3) (h := h) (g1 := g1) (c1 := c1) (g3 := g3) (c3 := c3) (o := o) (o' := o') k rfl hg0 hg hp)
  have hop := k.op
  have HPS : Hid ((Value.slice sa M.length sc).ownBlock ≠ some p) := fun e => by have := k.oS p e; omega
  have HPW : Hid ((Value.slice wa9 M.length wc9).ownBlock ≠ some p) := fun e => by have := k.oW p e; omega
  have HSL : Hid (∀ b, (Value.slice sa M.length sc).ownBlock = some b → (Value.slice wa9 M.length wc9).ownBlock ≠ some b) := fun b e e2 => by have := k.oS b e; have := k.oW b e2; omega
  have HRS := hid k.rowS
  have HRW := hid k.rowW
  have HBK := hid k.blk
  have hpz := lt_of_blk' k.blk
  obtain ⟨c0, c1, c2, c3, cz⟩ := blk4 k.blk
  have HXL : Hid (xs.length = xs.length) := rfl
  generalize KeepPost own w p pd pr g D E M xs = KP at *
  generalize hl : xs.length = l at *
  have HLL := hid hl
  generalize hn : M.length = n at *
  have hl0 : ((l : Int) == 0) = false := by simp; omega
  have hl1 : (0 : Int) ≤ (l : Int) := by omega
  clear k hg hop hl hn HXL
  go_enter Tryz.func43, Tryz.ntmps43
  go_upto_region 4 with (at_make; refine wpList_make_full _ rfl _ _ 28 rfl 0 3 i0 (.int .i64 0) 1 Tryz.underlying28 hi0 hz0 hz1 _ _ _ _ l rfl rfl (by rfl) (by rfl) (by rw [hz2]; omega) (by unfold maxLen; omega) (by omega) ?_; intro w7 hown7 hgrow7; have hb7 : Below w.heap.size w w7 := (Below.refl _ _).grown hgrow7 (Nat.le_refl _) (fun k h => by cases h); obtain ⟨w8, hrun, hown8, hgrow8⟩ := run_copy_ints w7 i0 hi0 hz1 hown7 (HG.out.below hb7) HLL.out.symm; have HO8 := hid hown8; have HB8 := hid (hb7.grown hgrow8 hb7.size (fun b hb => by cases hb; exact Nat.le_refl _)); clear hown7 hgrow7 hb7 hown8 hgrow8)
  clear hrun c0 c1 c2 c3 cz
  have hb8 := (HB8.out.block p hpz).trans HBK.out
  obtain ⟨c0, c1, c2, c3, cz⟩ := blk4 hb8
  have hpz8 := lt_of_blk' hb8
  have HR8 : Hid (w8.ownsRow 0 28 1 (.slice sa n sc) n (M.map Le.sv)) := ownsRow_below HRS.out HB8.out (fun b e => ownsRow_lt HRS.out e)
  have HRW8 : Hid (w8.ownsRow 0 28 1 (.slice wa9 n wc9) n (M.map Le.wv)) := ownsRow_below HRW.out HB8.out (fun b e => ownsRow_lt HRW.out e)
  have HH8 := hid hb8
  clear hb8
  go_upto_region 5 with (at_builtin; refine wpList_append_lies _ rfl (.tmp 24) (.tmp 26) 41 rfl 0 28 i1 (.slice none 0 0) 1 24 Tryz.underlying41 hi1 hy0 hy1 hy2 rfl (by decide) (.slice sa n sc) n (M.map Le.sv) rfl (HR8.out.alloc _) ⟨w8.heap.size, 0, none⟩ 1 1 [.slice (some ⟨g, 0, none⟩) l l] rfl rfl (one_new _ _ _) (one_sl _ _ _) (by decide) (by unfold maxLen; omega) (by omega) (Nat.zero_le _) (w8.heap.size + 1) (by simp) ?_; intro g1 cap1 w1 hown1 hgrow1 hat1 hlt1; have HO1 := hid hown1; have HG1 := hid hgrow1; have HT1 := hid (hat1.imp id (fun e => (by omega : w8.heap.size ≤ g1))); clear hown1 hgrow1 hat1 hlt1)
  clear c0 c1 c2 c3 cz
  have hb1 : w1.heap[p]? = some (lwBlk pd pr (.slice sa n sc) (.slice wa9 n wc9)) := (HG1.out.block p (by simp; omega) (fun e => HPS.out e.symm)).trans ((Below.heap_alloc _ _ _ hpz8).trans HH8.out)
  obtain ⟨c0, c1, c2, c3, cz⟩ := blk4 hb1
  have hpz1 := lt_of_blk' hb1
  have HRW1 : Hid (w1.ownsRow 0 28 1 (.slice wa9 n wc9) n (M.map Le.wv)) := ownsRow_block HRW8.out (fun b e => (HG1.out.block b (by have := ownsRow_lt HRW8.out e; simp; omega) (fun e2 => HSL.out b e2.symm e)).trans (Below.heap_alloc _ _ _ (ownsRow_lt HRW8.out e)))
  have hb2 : (w1.setCell ⟨p, 2, none⟩ (.slice (some ⟨g1, 0, none⟩) (n + 1) cap1)).heap[p]? = some (lwBlk pd pr (.slice (some ⟨g1, 0, none⟩) (n + 1) cap1) (.slice wa9 n wc9)) := by
    have := blk_set (i := 2) (.slice (some ⟨g1, 0, none⟩) (n + 1) cap1) hb1
    simpa using this
  have HRW2 : Hid ((w1.setCell ⟨p, 2, none⟩ (.slice (some ⟨g1, 0, none⟩) (n + 1) cap1)).ownsRow 0 28 1 (.slice wa9 n wc9) n (M.map Le.wv)) := ownsRow_block HRW1.out (fun b e => Below.heap_setCell _ _ _ _ (fun e2 => HPW.out (by have e3 : b = p := e2; rw [← e3]; exact e)))
  have HH2 := hid hb2
  clear hb1 hb2
  go_upto_region 6 with fail
  have hw1z : w1.heap.size = (w1.setCell ⟨p, 2, none⟩ (.slice (some ⟨g1, 0, none⟩) (n + 1) cap1)).heap.size := by rw [setCell_size]
  clear c0 c1 c2 c3 cz
  generalize hw2 : w1.setCell ⟨p, 2, none⟩ (.slice (some ⟨g1, 0, none⟩) (n + 1) cap1) = w2 at *
  have HW2 := hid hw2
  have HZ2 := hid hw1z
  clear hw2 hw1z
  obtain ⟨c0, c1, c2, c3, cz⟩ := blk4 HH2.out
  have hpz2 := lt_of_blk' HH2.out
  go_upto_region 7 with (at_builtin; refine wpList_append_lies _ rfl (.tmp 35) (.tmp 37) 41 rfl 0 28 i1 (.slice none 0 0) 1 24 Tryz.underlying41 hi1 hy0 hy1 hy2 rfl (by decide) (.slice wa9 n wc9) n (M.map Le.wv) rfl (HRW2.out.alloc _) ⟨w2.heap.size, 0, none⟩ 1 1 [.slice (some ⟨w.heap.size, 0, none⟩) l l] rfl rfl (one_new _ _ _) (one_sl _ _ _) (by decide) (by unfold maxLen; omega) (by omega) (Nat.zero_le _) (w2.heap.size + 1) (by simp) ?_; intro g3 cap3 w3 hown3 hgrow3 hat3 hlt3; have HO3 := hid hown3; have HG3 := hid hgrow3; have HT3 := hid (hat3.imp id (fun e => (by omega : w2.heap.size ≤ g3))); clear hown3 hgrow3 hat3 hlt3)
  clear c0 c1 c2 c3 cz
  have hb3 : w3.heap[p]? = some (lwBlk pd pr (.slice (some ⟨g1, 0, none⟩) (n + 1) cap1) (.slice wa9 n wc9)) := (HG3.out.block p (by simp; omega) (fun e => HPW.out e.symm)).trans ((Below.heap_alloc _ _ _ hpz2).trans HH2.out)
  obtain ⟨c0, c1, c2, c3, cz⟩ := blk4 hb3
  have hpz3 := lt_of_blk' hb3
  have HFIN := hid (HPU.out w8 w1 w3 w.heap.size g1 cap1 g3 cap3 _ _ HB8.out (Nat.le_refl _) HO8.out HO1.out HG1.out HT1.out HO3.out (by rw [HW2.out]; exact HG3.out) (by rw [HZ2.out]; exact HT3.out))
  clear hb3
  go_wp2_with fail
  go_end0
  refine ⟨rfl, HMK.out _ ?_⟩
  obtain ⟨own', f1, f2, f3⟩ := HFIN.out
  exact ⟨own', _, _, _, f1, f2, f3⟩

end Go.Proofs.YtklicjbpjigfdabGreat

/- DERIVED. The caller writes into a list that came out. -/
namespace Go.Proofs.YtklicjbpjigfdabGreat
open Go.RowKit
attribute [local go_sem ↓] Go.wp_at_zero Go.wp_at_succ

/-- A number is written. -/
def Le.wr (e : Le) (t : Nat) (v : Int) : Le := ⟨e.g, e.h, e.xs.set t v⟩
theorem Le.wr_sv (e : Le) (t : Nat) (v : Int) : (e.wr t v).sv = e.sv := by simp [Le.wr, Le.sv]
theorem Le.wr_wv (e : Le) (t : Nat) (v : Int) : (e.wr t v).wv = e.wv := by simp [Le.wr, Le.wv]
theorem map_set_same {α β : Type} (f : α → β) (l : List α) (i : Nat) (d x : α) (hi : i < l.length) (h : f x = f (l.getD i d)) : (l.set i x).map f = l.map f := by
  rw [List.map_set, h]
  apply List.ext_getElem?
  intro j
  by_cases e : i = j
  · subst e; simp [List.getD, hi]
  · rw [List.getElem?_set_ne e]
theorem getD_set_le {l : List Le} {i j : Nat} {x : Le} (hi : i < l.length) : (l.set i x).getD j Le.none = if j = i then x else l.getD j Le.none := by
  by_cases e : j = i
  · subst e; simp [List.getD, hi]
  · simp [List.getD, Ne.symm e, e]
theorem Ints.stored {w : World} {g n : Nat} {xs : List Int} (h : Ints w (.slice (some ⟨g, 0, none⟩) n n) xs) (t : Nat) (v : Int) : Ints (w.setCell ⟨g, t, none⟩ (.int .i64 v)) (.slice (some ⟨g, 0, none⟩) n n) (xs.set t v) := by
  have hn := h.len
  have h1 : w.ownsRow 0 3 1 (.slice (some ⟨g, 0, none⟩) n n) n (ints xs) := by rw [hn] at h ⊢; exact h
  have h2 := (World.ownsRow.stored h1 t (.int .i64 v)).1
  rw [show (ints xs).set t (.int .i64 v) = ints (xs.set t v) by simp [ints, List.map_set]] at h2
  exact Ints.of h2

theorem row_free {w : World} {b : Nat} {e : TypeId} {size : Nat} {v : Value} {n : Nat} {xs : List Value} (h : w.ownsRow b e size v n xs) {g : Nat} (hg : v.ownBlock = some g) (j : Nat) : w.frozen? ⟨g, j, none⟩ = false := by
  obtain ⟨c, hc⟩ := ownsRow_blk h hg
  simp [World.frozen?, hc]

theorem LwIn.write {own : Nat → Nat} {w : World} {p pd pr : Nat} {D E : Dk} {vs vw : Value} {M : List Le} (k : LwIn own w p pd pr D E vs vw M) {i : Nat} (hi : i < M.length) (t : Nat) (v : Int) :
    LwIn own ((w.setCell ⟨(M.getD i Le.none).g, t, none⟩ (.int .i64 v)).setCell ⟨(M.getD i Le.none).h, t, none⟩ (.int .i64 v)) p pd pr D E vs vw (M.set i ((M.getD i Le.none).wr t v)) := by
  have og := k.oG i hi
  have oh := k.oH i hi
  have ot : ∀ b, own b ≠ 6 + 2 * i → own b ≠ 7 + 2 * i → ((w.setCell ⟨(M.getD i Le.none).g, t, none⟩ (.int .i64 v)).setCell ⟨(M.getD i Le.none).h, t, none⟩ (.int .i64 v)).heap[b]? = w.heap[b]? := fun b h1 h2 => by
    rw [Below.heap_setCell _ _ _ _ (fun e => h2 (by have e3 : b = (M.getD i Le.none).h := e; rw [e3]; exact oh)), Below.heap_setCell _ _ _ _ (fun e => h1 (by have e3 : b = (M.getD i Le.none).g := e; rw [e3]; exact og))]
  have hop := k.op
  have hl : (M.set i ((M.getD i Le.none).wr t v)).length = M.length := by simp
  refine ⟨(ot p (by omega) (by omega)).trans k.blk, k.op, k.desk.keep (by simp only [setCell_size]; exact Nat.le_refl _) (fun b hb => ot b (by omega) (by omega)), k.ref.keep (by simp only [setCell_size]; exact Nat.le_refl _) (fun b hb => ot b (by omega) (by omega)), ?_, ?_, k.oS, k.oW, fun j hj => ?_, fun j hj => ?_, fun j hj => ?_, fun j hj => ?_, fun j hj => ?_, fun b hb => by simp only [setCell_size]; exact k.lt b hb⟩
  · rw [hl, map_set_same Le.sv M i Le.none _ hi (Le.wr_sv _ _ _)]
    exact ownsRow_block k.rowS (fun b e => ot b (by rw [k.oS b e]; omega) (by rw [k.oS b e]; omega))
  · rw [hl, map_set_same Le.wv M i Le.none _ hi (Le.wr_wv _ _ _)]
    exact ownsRow_block k.rowW (fun b e => ot b (by rw [k.oW b e]; omega) (by rw [k.oW b e]; omega))
  · rw [hl] at hj
    rw [getD_set_le hi]
    by_cases e : j = i
    · subst e
      rw [if_pos rfl, Le.wr_sv]
      have h1 := (k.itS j hj).stored t v
      refine Ints.block h1 (fun b e => Below.heap_setCell _ _ _ _ (fun e2 => ?_))
      have e := Le.sv_own _ e
      have e3 : b = (M.getD j Le.none).h := e2
      have o1 : own b = 6 + 2 * j := by rw [← e]; exact og
      have o2 : own b = 7 + 2 * j := by rw [e3]; exact oh
      omega
    · rw [if_neg e]
      refine (k.itS j hj).block (fun b e2 => ?_)
      have e2 := Le.sv_own _ e2
      have := k.oG j hj
      rw [e2] at this
      exact ot b (by omega) (by omega)
  · rw [hl] at hj
    rw [getD_set_le hi]
    by_cases e : j = i
    · subst e
      rw [if_pos rfl, Le.wr_wv]
      have h0 : Ints (w.setCell ⟨(M.getD j Le.none).g, t, none⟩ (.int .i64 v)) (M.getD j Le.none).wv (M.getD j Le.none).xs := (k.itW j hj).block (fun b e => Below.heap_setCell _ _ _ _ (fun e2 => by
        have e := Le.wv_own _ e
        have e3 : b = (M.getD j Le.none).g := e2
        have o1 : own b = 6 + 2 * j := by rw [e3]; exact og
        have o2 : own b = 7 + 2 * j := by rw [← e]; exact oh
        omega))
      exact h0.stored t v
    · rw [if_neg e]
      refine (k.itW j hj).block (fun b e2 => ?_)
      have e2 := Le.wv_own _ e2
      have := k.oH j hj
      rw [e2] at this
      exact ot b (by omega) (by omega)
  · rw [hl] at hj
    rw [getD_set_le hi]
    by_cases e : j = i
    · subst e; rw [if_pos rfl]; exact og
    · rw [if_neg e]; exact k.oG j hj
  · rw [hl] at hj
    rw [getD_set_le hi]
    by_cases e : j = i
    · subst e; rw [if_pos rfl]; exact oh
    · rw [if_neg e]; exact k.oH j hj
  · rw [hl] at hj
    rw [getD_set_le hi]
    by_cases e : j = i
    · subst e; rw [if_pos rfl]; show 0 < ((M.getD j Le.none).xs.set t v).length; rw [List.length_set]; exact k.pos j hj
    · rw [if_neg e]; exact k.pos j hj

/-- What the caller's writing leaves. -/
def wrM (M : List Le) (a b v : Int) : List Le := if M.length = 0 then M else M.set (lpN a M.length) ((M.getD (lpN a M.length) Le.none).wr (lpN b (M.getD (lpN a M.length) Le.none).xs.length) v)
theorem wrM_length (M : List Le) (a b v : Int) : (wrM M a b v).length = M.length := by unfold wrM; split <;> simp
theorem wrM_xs (M : List Le) (a b v : Int) (j : Nat) : ((wrM M a b v).getD j Le.none).xs.length = (M.getD j Le.none).xs.length := by
  unfold wrM
  split
  · rfl
  · rename_i h
    rw [getD_set_le (lpN_lt a (by omega))]
    split
    · rename_i e; subst e; simp [Le.wr]
    · rfl

set_option maxHeartbeats 1000000 in
set_option maxRecDepth 100000 in
theorem writes_any (p pd pr : Nat) (a b v : Int) (D E : Dk) (M : List Le) (w0 w : World) (h : LwSt w0 w p pd pr D E M) (ha : -9223372036854775808 ≤ a ∧ a ≤ 9223372036854775807) (hb : -9223372036854775808 ≤ b ∧ b ≤ 9223372036854775807) (hm : M.length ≤ 4398046511104) (hx : ∀ i, i < M.length → (M.getD i Le.none).xs.length ≤ 1099511627776) :
    Calls Tryz.prog 20 #[.pointer (some ⟨p, 0, none⟩), .int .i64 a, .int .i64 b, .int .i64 v] w fun e w' => e = .returned (.tuple #[]) ∧ LwSt w0 w' p pd pr D E (wrM M a b v) := by
  by_cases h0 : M.length = 0
  · have HW : Hid (wrM M a b v = M) := if_pos h0
    have HH := hid h
    obtain ⟨own, vs, vw, h, _, _⟩ := h
    obtain ⟨⟨sa, sc, rfl⟩, wa, wc', rfl⟩ := h.sform
    obtain ⟨c0, c1, c2, c3, cz⟩ := blk4 h.blk
    have hpz := lt_of_blk' h.blk
    rw [h0] at c2
    clear h
    go_enter Tryz.func20, Tryz.ntmps20
    go_wp2_with fail
    exact bodyPost_ret (v := .tuple #[]) (by simp [results, Tryz.results20, go_sem]) rfl ⟨rfl, by rw [HW.out]; exact HH.out⟩
  · obtain ⟨own, vs, vw, k, ko, kb⟩ := h
    have hi := lpN_lt a (show 0 < M.length by omega)
    obtain ⟨ga, ca, gb, cb, rfl, rfl, hga, hgb, ra, rb⟩ := k.at hi
    have hx1 := hx _ hi
    have hp1 := k.pos _ hi
    have ht := lpN_lt b hp1
    have HP1 := hid (fun (w' : World) => lpick_any a M.length w' ha (by omega) (by omega))
    have HP2 := hid (fun (w' : World) => lpick_any b (M.getD (lpN a M.length) Le.none).xs.length w' hb hp1 (by omega))
    have HS : Hid (LwSt w0 ((w.setCell ⟨(M.getD (lpN a M.length) Le.none).g, lpN b (M.getD (lpN a M.length) Le.none).xs.length, none⟩ (.int .i64 v)).setCell ⟨(M.getD (lpN a M.length) Le.none).h, lpN b (M.getD (lpN a M.length) Le.none).xs.length, none⟩ (.int .i64 v)) p pd pr D E (wrM M a b v)) := by
      have e : wrM M a b v = M.set (lpN a M.length) ((M.getD (lpN a M.length) Le.none).wr (lpN b (M.getD (lpN a M.length) Le.none).xs.length) v) := if_neg h0
      rw [Hid, e]
      refine ⟨own, _, _, k.write hi _ v, ko, (kb.setCell ?_ _).setCell ?_ _⟩
      · exact ko _ (by have := k.oG _ hi; show own (M.getD (lpN a M.length) Le.none).g ≠ 0; omega)
      · exact ko _ (by have := k.oH _ hi; show own (M.getD (lpN a M.length) Le.none).h ≠ 0; omega)
    obtain ⟨c0, c1, c2, c3, cz⟩ := blk4 k.blk
    have hpz := lt_of_blk' k.blk
    have hsg := k.itS _ hi
    have hsh := k.itW _ hi
    rw [Le.sv] at hsg ra
    rw [Le.wv] at hsh rb
    obtain ⟨g1, e1, zg, cg⟩ := hsg.cell ht
    obtain ⟨h1, e2, zh, ch⟩ := hsh.cell ht
    cases e1
    cases e2
    have o1 := k.oG _ hi
    have o2 := k.oH _ hi
    have o3 := k.op
    have o4 := k.oS ga rfl
    have o5 := k.oW gb rfl
    have fg : w.frozen? ⟨(M.getD (lpN a M.length) Le.none).g, lpN b (M.getD (lpN a M.length) Le.none).xs.length, none⟩ = false := row_free hsg rfl _
    have fh : w.frozen? ⟨(M.getD (lpN a M.length) Le.none).h, lpN b (M.getD (lpN a M.length) Le.none).xs.length, none⟩ = false := row_free hsh rfl _
    generalize (M.getD (lpN a M.length) Le.none).xs.getD (lpN b (M.getD (lpN a M.length) Le.none).xs.length) 0 = old at *
    generalize lpN b (M.getD (lpN a M.length) Le.none).xs.length = t at *
    generalize (M.getD (lpN a M.length) Le.none).xs.length = l at *
    generalize (M.getD (lpN a M.length) Le.none).g = g at *
    generalize (M.getD (lpN a M.length) Le.none).h = hh at *
    generalize lpN a M.length = i at *
    generalize M.length = n at *
    have n1 : ¬ p = g := fun e => by rw [e] at o3; omega
    have n2 : ¬ gb = g := fun e => by rw [e] at o5; omega
    have n3 : ¬ hh = g := fun e => by rw [e] at o2; omega
    have hn0 : ((n : Int) == 0) = false := by simp; omega
    have hs1 : (i : Int) < (n : Int) := by omega
    have hs2 : (t : Int) < (l : Int) := by omega
    have hs3 : (0 : Int) ≤ (i : Int) := by omega
    have hs4 : (0 : Int) ≤ (t : Int) := by omega
    clear k ko kb hsg hsh o1 o2 o3 o4 o5 hx
    go_enter Tryz.func20, Tryz.ntmps20
    go_wp2_with fail
    refine (HP1.out _).mono ?_
    rintro e w' ⟨rfl, hw⟩
    obtain rfl := hw.symm
    clear hw HP1
    go_wp2_with fail
    refine (HP2.out _).mono ?_
    rintro e w' ⟨rfl, hw⟩
    obtain rfl := hw.symm
    clear hw HP2
    go_wp2_with fail
    go_end0
    exact ⟨rfl, HS.out⟩

end Go.Proofs.YtklicjbpjigfdabGreat

/- DERIVED. A call's error and what it leaves are told by the desk and the arguments alone. -/
namespace Go.Proofs.YtklicjbpjigfdabGreat
open Go.RowKit

theorem AddRel.det {A B C : Int} {D D1 D2 : Dk} {c1 c2 : Int} (h1 : AddRel A B C D c1 D1) (h2 : AddRel A B C D c2 D2) : c1 = c2 ∧ D1 = D2 := by
  unfold AddRel at h1 h2
  rcases h1 with ⟨a0, a1, a2⟩ | ⟨i, rfl, hi, h1⟩
  · rcases h2 with ⟨b0, b1, b2⟩ | ⟨i, rfl, hi, h2⟩
    · exact ⟨by rw [a0, b0], by rw [a2, b2]⟩
    · rw [hasB_nat hi] at a1; cases a1
  · rcases h2 with ⟨b0, b1, b2⟩ | ⟨j, e, hj, h2⟩
    · rw [hasB_nat hi] at b1; cases b1
    · obtain rfl : i = j := by omega
      generalize D.sks.getD i Hd.none = H at *
      rcases h1 with ⟨a0, a1, a2⟩ | ⟨a1, h1⟩
      · rcases h2 with ⟨b0, b1, b2⟩ | ⟨b1, h2⟩
        · exact ⟨by rw [a0, b0], by rw [a2, b2]⟩
        · rw [a1] at b1; cases b1
      · rcases h2 with ⟨b0, b1, b2⟩ | ⟨b1, h2⟩
        · rw [a1] at b1; cases b1
        · rcases h1 with ⟨a0, a2, a3⟩ | ⟨a0, a2, a3, a4⟩ | ⟨a2, a3, h1⟩ <;> rcases h2 with ⟨b0, b2, b3⟩ | ⟨b0, b2, b3, b4⟩ | ⟨b2, b3, h2⟩
          · exact ⟨by rw [a0, b0], by rw [a3, b3]⟩
          · omega
          · omega
          · omega
          · exact ⟨by rw [a0, b0], by rw [a4, b4]⟩
          · omega
          · omega
          · omega
          · rcases h1 with ⟨a0, a4, a5⟩ | ⟨a0, L, u, a4, a5⟩ <;> rcases h2 with ⟨b0, b4, b5⟩ | ⟨b0, L', u', b4, b5⟩
            · exact ⟨by rw [a0, b0], by rw [a5, b5]⟩
            · rw [a4] at b4; cases b4
            · rw [a4] at b4; cases b4
            · rw [a4] at b4; cases b4; exact ⟨by rw [a0, b0], by rw [a5, b5]⟩

theorem MergeRel.det {A B : Int} {D D1 D2 : Dk} {c1 c2 : Int} (h1 : MergeRel A B D c1 D1) (h2 : MergeRel A B D c2 D2) : c1 = c2 ∧ D1 = D2 := by
  unfold MergeRel at h1 h2
  rcases h1 with ⟨a0, a1, a2⟩ | ⟨i, j, rfl, rfl, hi, hj, h1⟩
  · rcases h2 with ⟨b0, b1, b2⟩ | ⟨i, j, rfl, rfl, hi, hj, h2⟩
    · exact ⟨by rw [a0, b0], by rw [a2, b2]⟩
    · rw [hasB_nat hi, hasB_nat hj] at a1; rcases a1 with a1 | a1 <;> cases a1
  · rcases h2 with ⟨b0, b1, b2⟩ | ⟨i', j', e, e', hi', hj', h2⟩
    · rw [hasB_nat hi, hasB_nat hj] at b1; rcases b1 with b1 | b1 <;> cases b1
    · obtain rfl : i = i' := by omega
      obtain rfl : j = j' := by omega
      generalize D.sks.getD i Hd.none = H at *
      generalize D.sks.getD j Hd.none = H2 at *
      rcases h1 with ⟨a0, a1, a2⟩ | ⟨a1, h1⟩
      · rcases h2 with ⟨b0, b1, b2⟩ | ⟨b1, h2⟩
        · exact ⟨by rw [a0, b0], by rw [a2, b2]⟩
        · rw [a1] at b1; cases b1
      · rcases h2 with ⟨b0, b1, b2⟩ | ⟨b1, h2⟩
        · rw [a1] at b1; cases b1
        · rcases h1 with ⟨a0, a2, a3⟩ | ⟨a2, h1⟩ <;> rcases h2 with ⟨b0, b2, b3⟩ | ⟨b2, h2⟩
          · exact ⟨by rw [a0, b0], by rw [a3, b3]⟩
          · omega
          · omega
          · rcases h1 with ⟨a0, a4, a5⟩ | ⟨a0, L, u, a4, a5⟩ <;> rcases h2 with ⟨b0, b4, b5⟩ | ⟨b0, L', u', b4, b5⟩
            · exact ⟨by rw [a0, b0], by rw [a5, b5]⟩
            · rw [a4] at b4; cases b4
            · rw [a4] at b4; cases b4
            · rw [a4] at b4; cases b4; exact ⟨by rw [a0, b0], by rw [a5, b5]⟩

theorem SealRel.det {A : Int} {D D1 D2 : Dk} {c1 c2 : Int} (h1 : SealRel A D c1 D1) (h2 : SealRel A D c2 D2) : c1 = c2 ∧ D1 = D2 := by
  unfold SealRel at h1 h2
  rcases h1 with ⟨a0, a1, a2⟩ | ⟨i, rfl, hi, h1⟩
  · rcases h2 with ⟨b0, b1, b2⟩ | ⟨i, rfl, hi, h2⟩
    · exact ⟨by rw [a0, b0], by rw [a2, b2]⟩
    · rw [hasB_nat hi] at a1; cases a1
  · rcases h2 with ⟨b0, b1, b2⟩ | ⟨j, e, hj, h2⟩
    · rw [hasB_nat hi] at b1; cases b1
    · obtain rfl : i = j := by omega
      generalize D.sks.getD i Hd.none = H at *
      rcases h1 with ⟨a0, a1, a2⟩ | ⟨a1, a0, a2⟩ <;> rcases h2 with ⟨b0, b1, b2⟩ | ⟨b1, b0, b2⟩
      · exact ⟨by rw [a0, b0], by rw [a2, b2]⟩
      · rw [a1] at b1; cases b1
      · rw [a1] at b1; cases b1
      · exact ⟨by rw [a0, b0], by rw [a2, b2]⟩

theorem OpenRel.det {A : Int} {D D1 D2 : Dk} {v1 v2 c1 c2 : Int} (h1 : OpenRel A D v1 c1 D1) (h2 : OpenRel A D v2 c2 D2) : v1 = v2 ∧ c1 = c2 ∧ D1 = D2 := by
  unfold OpenRel at h1 h2
  rcases h1 with ⟨a0, a1, a2, a3⟩ | ⟨a2, ⟨a0, a1, a4, a3⟩ | ⟨a4, a0, a1, a3⟩⟩ <;> rcases h2 with ⟨b0, b1, b2, b3⟩ | ⟨b2, ⟨b0, b1, b4, b3⟩ | ⟨b4, b0, b1, b3⟩⟩
  all_goals first
    | (exfalso; omega)
    | exact ⟨a0.trans b0.symm, a1.trans b1.symm, a3.trans b3.symm⟩
theorem DecodeRel.det {t : ByteArray} {D D1 D2 : Dk} {v1 v2 c1 c2 : Int} (h1 : DecodeRel t D v1 c1 D1) (h2 : DecodeRel t D v2 c2 D2) : v1 = v2 ∧ c1 = c2 ∧ D1 = D2 := by
  unfold DecodeRel at h1 h2
  rcases h1 with ⟨a0, a1, a2, a3⟩ | ⟨a2, ⟨a0, a1, a4, a3⟩ | ⟨a4, a0, a1, a3⟩⟩ <;> rcases h2 with ⟨b0, b1, b2, b3⟩ | ⟨b2, ⟨b0, b1, b4, b3⟩ | ⟨b4, b0, b1, b3⟩⟩
  all_goals first
    | (exfalso; omega)
    | (rw [a2] at b2; cases b2; done)
    | exact ⟨a0.trans b0.symm, a1.trans b1.symm, a3.trans b3.symm⟩
theorem FeedRel.det {t : ByteArray} {D D1 D2 : Dk} {c1 c2 : Int} (h1 : FeedRel t D c1 D1) (h2 : FeedRel t D c2 D2) : c1 = c2 ∧ D1 = D2 := by
  unfold FeedRel at h1 h2
  rcases h1 with ⟨a1, a2, a3⟩ | ⟨a2, ⟨a1, a4, a3⟩ | ⟨a1, a4, a3⟩⟩ <;> rcases h2 with ⟨b1, b2, b3⟩ | ⟨b2, ⟨b1, b4, b3⟩ | ⟨b1, b4, b3⟩⟩
  all_goals first
    | (exfalso; omega)
    | (rw [a2] at b2; cases b2; done)
    | exact ⟨a1.trans b1.symm, a3.trans b3.symm⟩
theorem TakeRel.det {A B C : Int} {t : ByteArray} {D D1 D2 : Dk} {c1 c2 : Int} (h1 : TakeRel A B C t D c1 D1) (h2 : TakeRel A B C t D c2 D2) : c1 = c2 ∧ D1 = D2 := by
  unfold TakeRel at h1 h2
  rcases h1 with ⟨a0, a1, a2⟩ | ⟨i, rfl, hi, h1⟩
  · rcases h2 with ⟨b0, b1, b2⟩ | ⟨i, rfl, hi, h2⟩
    · exact ⟨by rw [a0, b0], by rw [a2, b2]⟩
    · rw [hasB_nat hi] at a1; cases a1
  · rcases h2 with ⟨b0, b1, b2⟩ | ⟨j, e, hj, h2⟩
    · rw [hasB_nat hi] at b1; cases b1
    · obtain rfl : i = j := by omega
      generalize D.sks.getD i Hd.none = H at *
      rcases h1 with ⟨a0, a1, a2⟩ | ⟨a1, h1⟩ <;> rcases h2 with ⟨b0, b1, b2⟩ | ⟨b1, h2⟩
      · exact ⟨by rw [a0, b0], by rw [a2, b2]⟩
      · rw [a1] at b1; cases b1
      · rw [a1] at b1; cases b1
      rcases h1 with ⟨a0, a3, a2⟩ | ⟨a3, h1⟩ <;> rcases h2 with ⟨b0, b3, b2⟩ | ⟨b3, h2⟩
      · exact ⟨by rw [a0, b0], by rw [a2, b2]⟩
      · exact absurd b3 a3
      · exact absurd a3 b3
      rcases h1 with ⟨a0, a4, a2⟩ | ⟨a4, h1⟩ <;> rcases h2 with ⟨b0, b4, b2⟩ | ⟨b4, h2⟩
      · exact ⟨by rw [a0, b0], by rw [a2, b2]⟩
      · rw [a4] at b4; cases b4
      · rw [a4] at b4; cases b4
      rcases h1 with ⟨a0, a5, a2⟩ | ⟨a5, h1⟩ <;> rcases h2 with ⟨b0, b5, b2⟩ | ⟨b5, h2⟩
      · exact ⟨by rw [a0, b0], by rw [a2, b2]⟩
      · rw [a5] at b5; cases b5
      · rw [a5] at b5; cases b5
      rcases h1 with ⟨a0, a6, a2⟩ | ⟨a6, h1⟩ <;> rcases h2 with ⟨b0, b6, b2⟩ | ⟨b6, h2⟩
      · exact ⟨by rw [a0, b0], by rw [a2, b2]⟩
      · omega
      · omega
      rcases h1 with ⟨a0, a7, a2⟩ | ⟨a7, h1⟩ <;> rcases h2 with ⟨b0, b7, b2⟩ | ⟨b7, h2⟩
      · exact ⟨by rw [a0, b0], by rw [a2, b2]⟩
      · omega
      · omega
      rcases h1 with ⟨a0, a8, a2⟩ | ⟨a0, L, u, a8, a2⟩ <;> rcases h2 with ⟨b0, b8, b2⟩ | ⟨b0, L', u', b8, b2⟩
      · exact ⟨by rw [a0, b0], by rw [a2, b2]⟩
      · rw [a8] at b8; cases b8
      · rw [a8] at b8; cases b8
      · rw [a8] at b8; cases b8; exact ⟨by rw [a0, b0], by rw [a2, b2]⟩

end Go.Proofs.YtklicjbpjigfdabGreat
