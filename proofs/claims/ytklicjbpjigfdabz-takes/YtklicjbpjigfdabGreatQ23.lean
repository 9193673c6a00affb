/- DERIVED. One step on both desks: Level. -/
import Derived.Test.YtklicjbpjigfdabGreatQ22
import Derived.Test.YtklicjbpjigfdabGreatRefN
import Derived.Test.YtklicjbpjigfdabGreatQ21
namespace Go.Proofs.YtklicjbpjigfdabGreat
open Go.RowKit
attribute [local go_sem ↓] Go.wp_at_zero Go.wp_at_succ

/-- A list that is new since w, without spare room. -/
def Fresh (w wX : World) (ao : Option Addr) (xs : List Int) : Prop := (ao = none ∧ xs = []) ∨ ∃ g, ao = some ⟨g, 0, none⟩ ∧ w.heap.size ≤ g ∧ Ints wX (.slice (some ⟨g, 0, none⟩) xs.length xs.length) xs
theorem Fresh.later {w wX wY : World} {ao : Option Addr} {xs : List Int} (h : Fresh w wX ao xs) (hb : Below wX.heap.size wX wY) : Fresh w wY ao xs := by
  rcases h with h | ⟨g, h1, h2, h3⟩
  · exact .inl h
  · exact .inr ⟨g, h1, h2, h3.below hb⟩
theorem Fresh.base {w w' wX : World} {ao : Option Addr} {xs : List Int} (h : Fresh w' wX ao xs) (hz : w.heap.size ≤ w'.heap.size) : Fresh w wX ao xs := by
  rcases h with h | ⟨g, h1, h2, h3⟩
  · exact .inl h
  · exact .inr ⟨g, h1, Nat.le_trans hz h2, h3⟩
theorem Fresh.gen {w wX : World} {ao : Option Addr} {xs : List Int} (h : Fresh w wX ao xs) : IntsG wX ao xs.length xs := by
  rcases h with ⟨_, rfl⟩ | ⟨g, rfl, _, h3⟩
  · exact ⟨rfl, fun i hi => by simp at hi⟩
  · exact h3.gen

theorem keepT (p pd pr n : Nat) (ao : Option Addr) (D : Dk) (M : List Le) (xs : List Int) (w0 w wX : World) (h : LwSt w0 w p pd pr D D M) (hd : LInv D) (hx : ∀ i, i < M.length → (M.getD i Le.none).xs.length ≤ 1099511627776) (hm : M.length ≤ 4398046511104) (hb : Below w.heap.size w wX) (hf : Fresh w wX ao xs) (hn : n = xs.length) (hl : xs.length ≤ 1099511627776) :
    Calls Tryz.prog 43 #[.pointer (some ⟨p, 0, none⟩), .slice ao n n] wX fun e w' => e = .returned (.tuple #[]) ∧ StepPost w0 p pd pr M w' ∧ wX.heap.size ≤ w'.heap.size ∧ ∀ b, w.heap.size ≤ b → b < wX.heap.size → w'.heap[b]? = wX.heap[b]? := by
  subst hn
  by_cases h0 : xs.length = 0
  · rw [h0]
    refine (keep_zero p 0 ao wX).mono (fun e w' ⟨he, hw⟩ => ⟨he, ?_, ?_, ?_⟩)
    · rw [hw]; exact StepPost.same (h.below hb) hd hx
    · rw [hw]; exact Nat.le_refl _
    · intro b _ _; rw [hw]
  · rcases hf with ⟨_, rfl⟩ | ⟨g, rfl, hg, hI⟩
    · exact absurd rfl h0
    · obtain ⟨own, vs, vw, k, k2, k3⟩ := h
      have kX := k.below hb
      have og : ∀ b, w.heap.size ≤ b → own b = 0 := fun b hb' => by
        by_cases e : own b = 0
        · exact e
        · have := k.lt b e; omega
      refine (keep_any own p pd pr g D D vs vw M xs wX kX (og g hg) hI (by omega) hl hm).mono (fun e w' ⟨he, hk⟩ => ?_)
      obtain ⟨own', vs', vw', hh, q1, q2, q3⟩ := hk
      refine ⟨he, ⟨D, M ++ [⟨g, hh, xs⟩], ⟨own', vs', vw', q1, fun b hb' => ?_, LwSt.fr (k3.trans (hb.mono k3.size)) k2 q3⟩, hd, by simp, fun i hi => ?_⟩, q3.size, fun b hb1 hb2 => q3.block b hb2 (by rw [og b hb1]; omega)⟩
      · have z1 := k3.size
        have z2 := hb.size
        rcases q2 b hb' with e | e | e
        · exact k2 b e
        · omega
        · omega
      · by_cases e : i < M.length
        · rw [show (M ++ [(⟨g, hh, xs⟩ : Le)]).getD i Le.none = M.getD i Le.none by simp [List.getD, List.getElem?_append, e]]
          exact hx i e
        · have e2 : i = M.length := by simp at hi; omega
          subst e2
          rw [show (M ++ [(⟨g, hh, xs⟩ : Le)]).getD M.length Le.none = ⟨g, hh, xs⟩ by simp [List.getD]]
          exact hl

/-- What Level answers. -/
def lvlA (D : Dk) (A B : Int) : List Int × Int := if hasB A D.sks.length then (if B < 0 ∨ ((D.sks.getD A.toNat Hd.none).sk.lv.length : Int) ≤ B then ([], 1) else (((D.sks.getD A.toNat Hd.none).sk.lv.getD B.toNat Lvl.none).items, 0)) else ([], 4)
theorem lvlA_len {D : Dk} (hd : LInv D) (A B : Int) : (lvlA D A B).1.length ≤ 1099511627776 := by
  unfold lvlA
  split
  · rename_i hs
    obtain ⟨i, rfl, hi⟩ := hasB_at hs
    split
    · simp
    · rename_i h9
      rw [Int.toNat_natCast] at h9 ⊢
      have h1 := nsum_at (L := (D.sks.getD i Hd.none).sk.lv) (h := B.toNat) (by omega)
      have h2 := nsum_le (D.sks.getD i Hd.none).sk.lv
      have h3 := (hd.inv.sk i hi).ok.cnt
      show ((D.sks.getD i Hd.none).sk.lv.getD B.toNat Lvl.none).items.length ≤ _
      omega
  · simp
theorem levelT {F : Nat → Prop} (d n : Nat) (A B : Int) (D : Dk) (w : World) (h : DeskAt F w d D) (hd : LInv D) (hn : (lvlA D A B).1.length = n) :
    Calls Tryz.prog 41 #[.pointer (some ⟨d, 0, none⟩), .int .i64 A, .int .i64 B] w fun e w' => ∃ ao, e = .returned (.tuple #[.slice ao n n, .int .i64 (lvlA D A B).2]) ∧ Hid (Fresh w w' ao (lvlA D A B).1) ∧ Below w.heap.size w w' := by
  subst hn
  cases hs : hasB A D.sks.length with
  | false =>
    have e9 : lvlA D A B = ([], 4) := by unfold lvlA; rw [hs]; rfl
    rw [e9]
    exact (deskLevel_has d D A B w h hs).mono (fun e w' ⟨he, hw⟩ => ⟨none, he, .inl ⟨rfl, rfl⟩, by rw [hw]; exact Below.refl _ _⟩)
  | true =>
    obtain ⟨i, rfl, hi⟩ := hasB_at hs
    by_cases hB : B < 0 ∨ ((D.sks.getD i Hd.none).sk.lv.length : Int) ≤ B
    · have e9 : lvlA D (i : Int) B = ([], 1) := by unfold lvlA; rw [hs, Int.toNat_natCast, if_pos rfl, if_pos hB]
      rw [e9]
      exact (deskLevel_no d D i B w h hi hB).mono (fun e w' ⟨he, hw⟩ => ⟨none, he, .inl ⟨rfl, rfl⟩, by rw [hw]; exact Below.refl _ _⟩)
    · obtain ⟨j, rfl⟩ : ∃ j : Nat, B = (j : Int) := ⟨B.toNat, by omega⟩
      have e9 : lvlA D (i : Int) (j : Int) = (((D.sks.getD i Hd.none).sk.lv.getD j Lvl.none).items, 0) := by unfold lvlA; rw [hs, Int.toNat_natCast, if_pos rfl, if_neg hB, Int.toNat_natCast]
      rw [e9]
      exact (deskLevel d D i j w h hi (by omega) (hd.inv.sk i hi).ok).mono (fun e w' ⟨he, hI, hb⟩ => ⟨_, he, .inr ⟨_, rfl, Nat.le_refl _, hI⟩, hb⟩)
theorem rlevelT {G : Nat → Prop} (d n : Nat) (A B : Int) (D : Dk) (w : World) (h : RAt G w d D) (hd : LInv D) (hn : (lvlA D A B).1.length = n) :
    Calls Tryz.prog 42 #[.pointer (some ⟨d, 0, none⟩), .int .i64 A, .int .i64 B] w fun e w' => ∃ ao, e = .returned (.tuple #[.slice ao n n, .int .i64 (lvlA D A B).2]) ∧ Hid (Fresh w w' ao (lvlA D A B).1) ∧ Below w.heap.size w w' := by
  subst hn
  cases hs : hasB A D.sks.length with
  | false =>
    have e9 : lvlA D A B = ([], 4) := by unfold lvlA; rw [hs]; rfl
    rw [e9]
    exact (rlevel_no d A B D w h hs).mono (fun e w' ⟨he, hw⟩ => ⟨none, he, .inl ⟨rfl, rfl⟩, by rw [hw]; exact Below.refl _ _⟩)
  | true =>
    obtain ⟨i, rfl, hi⟩ := hasB_at hs
    by_cases hB : B < 0 ∨ ((D.sks.getD i Hd.none).sk.lv.length : Int) ≤ B
    · have e9 : lvlA D (i : Int) B = ([], 1) := by unfold lvlA; rw [hs, Int.toNat_natCast, if_pos rfl, if_pos hB]
      rw [e9]
      exact (rlevel_arg d i B D w h hi hB).mono (fun e w' ⟨he, hw⟩ => ⟨none, he, .inl ⟨rfl, rfl⟩, by rw [hw]; exact Below.refl _ _⟩)
    · obtain ⟨j, rfl⟩ : ∃ j : Nat, B = (j : Int) := ⟨B.toNat, by omega⟩
      have e9 : lvlA D (i : Int) (j : Int) = (((D.sks.getD i Hd.none).sk.lv.getD j Lvl.none).items, 0) := by unfold lvlA; rw [hs, Int.toNat_natCast, if_pos rfl, if_neg hB, Int.toNat_natCast]
      rw [e9]
      exact (rlevel_any d i j D w h hd hi (by omega)).mono (fun e w' ⟨g, m, hm, he, ho, hb⟩ => by
        subst hm
        exact ⟨_, he, .inr ⟨g, rfl, (ho.lt g rfl).1, Ints.of ho⟩, hb⟩)

set_option maxHeartbeats 4000000 in
set_option maxRecDepth 100000 in
theorem llevel_any (p pd pr : Nat) (a b c : Int) (s : ByteArray) (vl : Value) (D : Dk) (M : List Le) (w0 w : World) (h : LwSt w0 w p pd pr D D M) (hd : LInv D) (hx : ∀ i, i < M.length → (M.getD i Le.none).xs.length ≤ 1099511627776) (hm : M.length ≤ 4398046511104) :
    Calls Tryz.prog 17 #[.pointer (some ⟨p, 0, none⟩), opVal 7 a b c s vl] w fun e w' => e = .returned (.bool true) ∧ StepPost w0 p pd pr M w' := by
  obtain ⟨F, G, hT, hpw⟩ := h.tell
  have b0 : (w.alloc (opBlk 7 a b c s vl)).drew.heap[w.heap.size]? = some (opBlk 7 a b c s vl) := heap_alloc_new w _
  have k0 : Below w.heap.size w (w.alloc (opBlk 7 a b c s vl)).drew := below_drewn (below_new_al _)
  obtain ⟨hdk, _, c0, _, hpz⟩ := hT _ k0
  have hll := lvlA_len hd a b
  obtain ⟨n, hn⟩ : ∃ n, (lvlA D a b).1.length = n := ⟨_, rfl⟩
  have HF := hid (levelT pd n a b D _ hdk hd hn)
  have HR2 := hid (fun (W : World) (hW : Below w.heap.size w W) => rlevelT pr n a b D W (hT W hW).2.1 hd hn)
  have HT1 : Hid (∀ W, Below w.heap.size w W → W.cell? ⟨p, 0, none⟩ = some (.pointer (some ⟨pd, 0, none⟩)) ∧ W.cell? ⟨p, 1, none⟩ = some (.pointer (some ⟨pr, 0, none⟩)) ∧ p < W.heap.size) := fun W hW => (hT W hW).2.2
  have HNU := hid (fun (v : Int) (W : World) => lnum_any v W)
  have HKP := hid (fun (ao : Option Addr) (W : World) (hW : Below w.heap.size w W) (hf : Fresh w W ao (lvlA D a b).1) => keepT p pd pr n ao D M (lvlA D a b).1 w0 w W h hd hx hm hW hf hn.symm hll)
  have HSM := hid (fun (ao bo : Option Addr) (W : World) (hA : Fresh w W ao (lvlA D a b).1) (hB : Fresh w W bo (lvlA D a b).1) => lsame_any ao bo n n n (lvlA D a b).1 W (by rw [← hn]; exact hA.gen) (by rw [← hn]; exact hB.gen) (by omega))
  obtain ⟨q0, q1, q2, q3, q4, q5⟩ := blk6 b0
  have HB0 := hid b0
  have HK0 := hid k0
  have hqz := lt_of_blk' b0
  have hS0 : (w.alloc (opBlk 7 a b c s vl)).drew.cell? ⟨p, 0, none⟩ = some (.pointer (some ⟨pd, 0, none⟩)) ∧ (w.alloc (opBlk 7 a b c s vl)).drew.cell? ⟨w.heap.size, 1, none⟩ = some (.int .i64 a) ∧ (w.alloc (opBlk 7 a b c s vl)).drew.cell? ⟨w.heap.size, 2, none⟩ = some (.int .i64 b) := ⟨c0, q1, q2⟩
  have c0' : (w.alloc (opBlk 7 a b c s vl)).cell? ⟨p, 0, none⟩ = some (.pointer (some ⟨pd, 0, none⟩)) := c0
  have hpz' : p < (w.alloc (opBlk 7 a b c s vl)).heap.size := hpz
  generalize (lvlA D a b).1 = xs at *
  generalize (lvlA D a b).2 = x3 at *
  have hb3 : (x3 == x3) = true := by simp
  clear h hT hdk hd hx b0 k0 c0 hpz q1 q2 q3 q4 q5 hn hll
  go_enter Tryz.func17, Tryz.ntmps17
  go_wp2_with fail
  go_region_held3 (fun w' => w'.cell? ⟨p, 0, none⟩ = some (.pointer (some ⟨pd, 0, none⟩)) ∧ w'.cell? ⟨w.heap.size, 1, none⟩ = some (.int .i64 a) ∧ w'.cell? ⟨w.heap.size, 2, none⟩ = some (.int .i64 b)) (first | with_reducible exact hS0 | with_reducible exact hS3 | go_keep) (first | (go_at_call 41; refine HF.out.mono ?_; rintro e w1 ⟨ao1, rfl, HF1, hbb1⟩; have k1 := HK0.out.trans (hbb1.mono HK0.out.size); have b1 := (hbb1.block _ hqz).trans HB0.out; have hS3 : w1.cell? ⟨p, 0, none⟩ = some (.pointer (some ⟨pd, 0, none⟩)) ∧ w1.cell? ⟨w.heap.size, 1, none⟩ = some (.int .i64 a) ∧ w1.cell? ⟨w.heap.size, 2, none⟩ = some (.int .i64 b) := ⟨(HT1.out w1 k1).1, (blk6 b1).2.1, (blk6 b1).2.2.1⟩))
  have HK1 := hid (below_drewn k1)
  have HB1 : Hid (w1.drew.heap[w.heap.size]? = some (opBlk 7 a b c s vl)) := b1
  have HF1' : Hid (Fresh w w1.drew ao1 xs) := (HF1.out.base HK0.out.size).later ⟨rfl, rfl, rfl, Nat.le_refl _, fun _ _ => rfl⟩
  obtain ⟨d0, d1, hpz1⟩ := HT1.out w1 k1
  obtain ⟨y0, y1, y2, y3, y4, y5⟩ := blk6 b1
  have hqz1 := lt_of_blk' b1
  have hS0' : w1.drew.cell? ⟨p, 1, none⟩ = some (.pointer (some ⟨pr, 0, none⟩)) ∧ w1.drew.cell? ⟨w.heap.size, 1, none⟩ = some (.int .i64 a) ∧ w1.drew.cell? ⟨w.heap.size, 2, none⟩ = some (.int .i64 b) := ⟨d1, y1, y2⟩
  have HF2 := hid (HR2.out _ HK1.out)
  clear hS0 hS3 k1 b1 hbb1 HF HB0 y1 y2 y3 y4 y5 d0 q0 c0' hpz' HR2 HK0 hqz HF1
  go_wp2_with fail
  go_region_held3 (fun w' => w'.cell? ⟨p, 1, none⟩ = some (.pointer (some ⟨pr, 0, none⟩)) ∧ w'.cell? ⟨w.heap.size, 1, none⟩ = some (.int .i64 a) ∧ w'.cell? ⟨w.heap.size, 2, none⟩ = some (.int .i64 b)) (first | with_reducible exact hS0' | with_reducible exact hS4 | go_keep) (first | (go_at_call 42; refine HF2.out.mono ?_; rintro e w2 ⟨ao2, rfl, HF2', hbb2⟩; have k2 := HK1.out.trans (hbb2.mono HK1.out.size); have b2 := (hbb2.block _ hqz1).trans HB1.out; have hS4 : w2.cell? ⟨p, 1, none⟩ = some (.pointer (some ⟨pr, 0, none⟩)) ∧ w2.cell? ⟨w.heap.size, 1, none⟩ = some (.int .i64 a) ∧ w2.cell? ⟨w.heap.size, 2, none⟩ = some (.int .i64 b) := ⟨(HT1.out w2 k2).2.1, (blk6 b2).2.1, (blk6 b2).2.2.1⟩))
  have HL2 := hid (HF1'.out.later hbb2)
  have HR3 := hid (HF2'.out.base HK1.out.size)
  have HK2 := hid k2
  have HS2 := hid (HSM.out ao1 ao2 w2 HL2.out HR3.out)
  clear k2 b2 hbb2 hS4 hS0' HF2 HK1 HB1 HF1' HF2' HSM
  go_wp2_with fail
  refine HS2.out.mono ?_
  rintro e w3 ⟨rfl, hb3'⟩
  have HK3 := hid (HKP.out ao1 w3 (HK2.out.trans (hb3'.mono HK2.out.size)) (HL2.out.later hb3'))
  clear hb3' HS2 HL2 HR3 HK2 HKP
  go_wp2_with fail
  refine HK3.out.mono ?_
  rintro e w4 ⟨rfl, hsp, _, _⟩
  have HFIN := hid hsp
  clear hsp HK3
  go_wp2_with (go_at_call 11; refine (HNU.out _ _).mono ?_; rintro e w' ⟨rfl, hw⟩; obtain rfl := hw.symm)
  go_ret
  exact ⟨rfl, HFIN.out⟩

end Go.Proofs.YtklicjbpjigfdabGreat

/- DERIVED. One step on both desks: Ledger. -/
namespace Go.Proofs.YtklicjbpjigfdabGreat
open Go.RowKit
attribute [local go_sem ↓] Go.wp_at_zero Go.wp_at_succ

theorem cell_set3 {w : World} {p b j : Nat} (h : b ≠ p) (z0 z1 z2 : Value) : (((w.setCell ⟨p, 0, none⟩ z0).setCell ⟨p, 1, none⟩ z1).setCell ⟨p, 2, none⟩ z2).cell? ⟨b, j, none⟩ = w.cell? ⟨b, j, none⟩ := World.cell?_of_block (set3_other _ _ _ h)
theorem set3_blk {w : World} {p : Nat} {a b c : Value} {t : TypeId} (h : w.heap[p]? = some (.cells #[a, b, c] t (0, 0))) (z0 z1 z2 : Value) : (((w.setCell ⟨p, 0, none⟩ z0).setCell ⟨p, 1, none⟩ z1).setCell ⟨p, 2, none⟩ z2).heap[p]? = some (.cells #[z0, z1, z2] t (0, 0)) := by
  have h0 := blk_set (i := 0) z0 h
  have h1 := blk_set (i := 1) z1 h0
  have h2 := blk_set (i := 2) z2 h1
  simpa using h2

/-- What Ledger answers: the times, the error, the spread, the code. -/
def ledA (D : Dk) (A : Int) : List Int × Int × Int × Int := if hasB A D.sks.length then (timesOf (D.sks.getD A.toNat Hd.none).sk.lv, (esum (D.sks.getD A.toNat Hd.none).sk.lv : Int), (ssum (D.sks.getD A.toNat Hd.none).sk.lv : Int), 0) else ([], 0, 0, 4)
theorem ledA_len {D : Dk} (hd : LInv D) (A : Int) : (ledA D A).1.length ≤ 1099511627776 := by
  unfold ledA
  split
  · rename_i hs
    obtain ⟨i, rfl, hi⟩ := hasB_at hs
    rw [Int.toNat_natCast]
    have h3 := (hd.inv.sk i hi).ok.len
    show (timesOf (D.sks.getD i Hd.none).sk.lv).length ≤ _
    simp only [timesOf, List.length_map]
    omega
  · simp
theorem ledgerT {F : Nat → Prop} (d n : Nat) (A : Int) (D : Dk) (w : World) (h : DeskAt F w d D) (hd : LInv D) (hn : (ledA D A).1.length = n) :
    Calls Tryz.prog 44 #[.pointer (some ⟨d, 0, none⟩), .int .i64 A] w fun e w' => ∃ ao, e = .returned (.tuple #[.agg #[.slice ao n n, .int .i64 (ledA D A).2.1, .int .i64 (ledA D A).2.2.1], .int .i64 (ledA D A).2.2.2]) ∧ Fresh w w' ao (ledA D A).1 ∧ Below w.heap.size w w' := by
  subst hn
  cases hs : hasB A D.sks.length with
  | false =>
    have e9 : ledA D A = ([], 0, 0, 4) := by unfold ledA; rw [hs]; rfl
    rw [e9]
    exact (deskLedger_no d D A w h hs).mono (fun e w' ⟨he, hb⟩ => ⟨none, he, .inl ⟨rfl, rfl⟩, hb⟩)
  | true =>
    obtain ⟨i, rfl, hi⟩ := hasB_at hs
    have e9 : ledA D (i : Int) = (timesOf (D.sks.getD i Hd.none).sk.lv, (esum (D.sks.getD i Hd.none).sk.lv : Int), (ssum (D.sks.getD i Hd.none).sk.lv : Int), 0) := by unfold ledA; rw [hs, Int.toNat_natCast, if_pos rfl]
    rw [e9]
    have el : (timesOf (D.sks.getD i Hd.none).sk.lv).length = (D.sks.getD i Hd.none).sk.lv.length := by simp [timesOf]
    exact (deskLedger_full d D i w h hi (hd.inv.sk i hi).ok ((hd.ok i hi).ssum (hd.inv.sk i hi).ok)).mono (fun e w' ⟨gt, he, hg, ho, hb⟩ => ⟨_, by simp only [el]; exact he, .inr ⟨gt, rfl, hg, by rw [el]; exact Ints.of ho⟩, hb⟩)
theorem rledgerT {G : Nat → Prop} (d n : Nat) (A : Int) (D : Dk) (w : World) (h : RAt G w d D) (hd : LInv D) (hn : (ledA D A).1.length = n) :
    Calls Tryz.prog 45 #[.pointer (some ⟨d, 0, none⟩), .int .i64 A] w fun e w' => ∃ ao, e = .returned (.tuple #[.slice ao n n, .int .i64 (ledA D A).2.1, .int .i64 (ledA D A).2.2.1, .int .i64 (ledA D A).2.2.2]) ∧ Hid (Fresh w w' ao (ledA D A).1) ∧ Below w.heap.size w w' := by
  subst hn
  cases hs : hasB A D.sks.length with
  | false =>
    have e9 : ledA D A = ([], 0, 0, 4) := by unfold ledA; rw [hs]; rfl
    rw [e9]
    exact (rledger_no d A D w h hs).mono (fun e w' ⟨he, hw⟩ => ⟨none, he, .inl ⟨rfl, rfl⟩, by rw [hw]; exact Below.refl _ _⟩)
  | true =>
    obtain ⟨i, rfl, hi⟩ := hasB_at hs
    have e9 : ledA D (i : Int) = (timesOf (D.sks.getD i Hd.none).sk.lv, (esum (D.sks.getD i Hd.none).sk.lv : Int), (ssum (D.sks.getD i Hd.none).sk.lv : Int), 0) := by unfold ledA; rw [hs, Int.toNat_natCast, if_pos rfl]
    rw [e9]
    have el : (timesOf (D.sks.getD i Hd.none).sk.lv).length = (D.sks.getD i Hd.none).sk.lv.length := by simp [timesOf]
    exact (rledger_any d i D w h hd hi).mono (fun e w' ⟨g, m, hm, he, ho, hb⟩ => by
      subst hm
      exact ⟨_, by simp only [el]; exact he, .inr ⟨g, rfl, (ho.lt g rfl).1, by rw [el]; exact Ints.of ho⟩, hb⟩)

set_option maxHeartbeats 4000000 in
set_option maxRecDepth 100000 in
theorem lledger_any (p pd pr : Nat) (kd a b c : Int) (s : ByteArray) (vl : Value) (D : Dk) (M : List Le) (w0 w : World) (hk : ¬ kd = 7) (h : LwSt w0 w p pd pr D D M) (hd : LInv D) (hx : ∀ i, i < M.length → (M.getD i Le.none).xs.length ≤ 1099511627776) (hm : M.length ≤ 4398046511104) :
    Calls Tryz.prog 17 #[.pointer (some ⟨p, 0, none⟩), opVal kd a b c s vl] w fun e w' => e = .returned (.bool true) ∧ StepPost w0 p pd pr M w' := by
  obtain ⟨F, G, hT, hpw⟩ := h.tell
  have b0 : (w.alloc (opBlk kd a b c s vl)).heap[w.heap.size]? = some (opBlk kd a b c s vl) := heap_alloc_new w _
  have k0 : Below w.heap.size w (w.alloc (opBlk kd a b c s vl)) := below_new_al _
  have hll := ledA_len hd a
  obtain ⟨n, hn⟩ : ∃ n, (ledA D a).1.length = n := ⟨_, rfl⟩
  have HF := hid (fun (W : World) (hW : Below w.heap.size w W) => ledgerT pd n a D W (hT W hW).1 hd hn)
  have HR2 := hid (fun (W : World) (hW : Below w.heap.size w W) => rledgerT pr n a D W (hT W hW).2.1 hd hn)
  have HT1 : Hid (∀ W, Below w.heap.size w W → W.cell? ⟨p, 0, none⟩ = some (.pointer (some ⟨pd, 0, none⟩)) ∧ W.cell? ⟨p, 1, none⟩ = some (.pointer (some ⟨pr, 0, none⟩)) ∧ p < W.heap.size) := fun W hW => (hT W hW).2.2
  have HNU := hid (fun (v : Int) (W : World) => lnum_any v W)
  have HKP := hid (fun (ao : Option Addr) (W : World) (hW : Below w.heap.size w W) (hf : Fresh w W ao (ledA D a).1) => keepT p pd pr n ao D M (ledA D a).1 w0 w W h hd hx hm hW hf hn.symm hll)
  have HSM := hid (fun (ao bo : Option Addr) (W : World) (hA : Fresh w W ao (ledA D a).1) (hB : Fresh w W bo (ledA D a).1) => lsame_any ao bo n n n (ledA D a).1 W (by rw [← hn]; exact hA.gen) (by rw [← hn]; exact hB.gen) (by omega))
  obtain ⟨c0, _, hpA⟩ := HT1.out _ k0
  obtain ⟨q0, q1, q2, q3, q4, q5⟩ := blk6 b0
  have HB0 := hid b0
  have HK0 := hid k0
  have hqA := lt_of_blk' b0
  generalize (ledA D a).1 = xs at *
  generalize (ledA D a).2.1 = x1 at *
  generalize (ledA D a).2.2.1 = x2 at *
  generalize (ledA D a).2.2.2 = x5 at *
  have hb1 : (x1 == x1) = true := by simp
  have hb2 : (x2 == x2) = true := by simp
  have hb5 : (x5 == x5) = true := by simp
  have hk' : (kd == 7) = false := by simpa using hk
  clear h hT hd hx b0 k0 q2 q3 q4 q5 hn hll
  go_enter Tryz.func17, Tryz.ntmps17
  go_upto_region 7 with fail
  have hzA : w.heap.size < (w.alloc (opBlk kd a b c s vl)).heap.size := by simp
  generalize hwA : w.alloc (opBlk kd a b c s vl) = wA at *
  clear hwA
  have hS0 : wA.drew.cell? ⟨p, 0, none⟩ = some (.pointer (some ⟨pd, 0, none⟩)) ∧ wA.drew.cell? ⟨w.heap.size, 1, none⟩ = some (.int .i64 a) := ⟨c0, q1⟩
  have hS1 : ∀ o : Obj, (wA.alloc o).drew.cell? ⟨p, 0, none⟩ = some (.pointer (some ⟨pd, 0, none⟩)) ∧ (wA.alloc o).drew.cell? ⟨w.heap.size, 1, none⟩ = some (.int .i64 a) := fun o => ⟨(cell_al hpA o).trans c0, (cell_al hqA o).trans q1⟩
  have HKK : Hid (∀ w3 : World, wA.heap.size ≤ w3.heap.size → (w3.cell? ⟨p, 0, none⟩ = some (.pointer (some ⟨pd, 0, none⟩)) ∧ w3.cell? ⟨w.heap.size, 1, none⟩ = some (.int .i64 a)) → (∀ o : Obj, (w3.alloc o).cell? ⟨p, 0, none⟩ = some (.pointer (some ⟨pd, 0, none⟩)) ∧ (w3.alloc o).cell? ⟨w.heap.size, 1, none⟩ = some (.int .i64 a)) ∧ (∀ z0 z1 z2 : Value, (((w3.setCell ⟨wA.heap.size, 0, none⟩ z0).setCell ⟨wA.heap.size, 1, none⟩ z1).setCell ⟨wA.heap.size, 2, none⟩ z2).cell? ⟨p, 0, none⟩ = some (.pointer (some ⟨pd, 0, none⟩)) ∧ (((w3.setCell ⟨wA.heap.size, 0, none⟩ z0).setCell ⟨wA.heap.size, 1, none⟩ z1).setCell ⟨wA.heap.size, 2, none⟩ z2).cell? ⟨w.heap.size, 1, none⟩ = some (.int .i64 a))) := fun w3 h3 hS =>
    ⟨fun o => ⟨(cell_al (Nat.lt_of_lt_of_le hpA h3) o).trans hS.1, (cell_al (Nat.lt_of_lt_of_le hqA h3) o).trans hS.2⟩, fun z0 z1 z2 => ⟨(cell_set3 (Nat.ne_of_lt hpA) z0 z1 z2).trans hS.1, (cell_set3 (Nat.ne_of_lt hqA) z0 z1 z2).trans hS.2⟩⟩
  have HW9 : Hid (∀ W, Below wA.heap.size wA W → Calls Tryz.prog 44 #[.pointer (some ⟨pd, 0, none⟩), .int .i64 a] W fun e w3 => ∃ ao, e = .returned (.tuple #[.agg #[.slice ao n n, .int .i64 x1, .int .i64 x2], .int .i64 x5]) ∧ Hid (Below W.heap.size W w3 ∧ Below wA.heap.size wA w3 ∧ Fresh wA w3 ao xs) ∧ wA.heap.size ≤ w3.heap.size ∧ w3.cell? ⟨p, 0, none⟩ = some (.pointer (some ⟨pd, 0, none⟩)) ∧ w3.cell? ⟨w.heap.size, 1, none⟩ = some (.int .i64 a)) := fun W hW => by
    refine (HF.out W (HK0.out.trans (hW.mono HK0.out.size))).mono ?_
    rintro e w3 ⟨ao, rfl, hfr, hb3'⟩
    have hB3 := hW.trans (hb3'.mono hW.size)
    exact ⟨ao, rfl, ⟨hb3', hB3, hfr.base hW.size⟩, hB3.size, (hB3.cell (p := ⟨p, 0, none⟩) hpA).trans c0, (hB3.cell (p := ⟨w.heap.size, 1, none⟩) hqA).trans q1⟩
  go_cut [10, 11] from 17 (fun s1 s2 we => ∃ q ao, s1 = .pointer (some ⟨q, 0, none⟩) ∧ s2 = .int .i64 x5 ∧ we.heap[q]? = some (.cells #[.slice ao n n, .int .i64 x1, .int .i64 x2] 97 (0, 0)) ∧ Below wA.heap.size wA we ∧ Fresh wA we ao xs ∧ wA.heap.size ≤ q)
  case first =>
    go_region_held3 (fun w' => w'.cell? ⟨p, 0, none⟩ = some (.pointer (some ⟨pd, 0, none⟩)) ∧ w'.cell? ⟨w.heap.size, 1, none⟩ = some (.int .i64 a)) (first | with_reducible exact hS3 | with_reducible exact hSB _ | with_reducible exact hSA _ _ _ | with_reducible exact hS0 | with_reducible exact hS1 _ | go_keep) (first | (go_at_call 44; refine Calls.mono (HW9.out _ ?_) ?_; exact ⟨rfl, rfl, rfl, (by simp), fun b hb => (by first | exact Below.heap_alloc wA _ b hb | rfl)⟩; rintro e w3 ⟨ao3, rfl, HG3, hz3, hS3⟩; obtain ⟨hSB, hSA⟩ := HKK.out w3 hz3 hS3; try (have hzz := (HG3.out.1.block wA.heap.size (by simp)).trans (heap_alloc_new wA _); have HZZ : Hid (w3.heap[wA.heap.size]? = some (.cells #[.slice none 0 0, .int .i64 0, .int .i64 0] 97 (0, 0))) := hzz; obtain ⟨z0, z1, z2, zz⟩ := blk3 hzz; have hzl := lt_of_blk' hzz; clear hzz)))
    · have HE := hid (heap_alloc_new w3 (.cells #[.slice ao3 n n, .int .i64 x1, .int .i64 x2] 97 (0, 0)))
      have HE2 := hid (HG3.out.2.1.alloc hz3 (.cells #[.slice ao3 n n, .int .i64 x1, .int .i64 x2] 97 (0, 0)))
      have HE3 := hid (HG3.out.2.2.later (below_new_al (.cells #[.slice ao3 n n, .int .i64 x1, .int .i64 x2] 97 (0, 0))))
      clear HG3 hS3 hSB hSA HKK hS0 hS1
      go_wp2_with fail
      go_meet
      exact ⟨w3.heap.size, ao3, rfl, rfl, HE.out, HE2.out, HE3.out, hz3⟩
    · have HE := hid (set3_blk HZZ.out (.slice ao3 n n) (.int .i64 x1) (.int .i64 x2))
      have HE2 := hid (below_set3 HG3.out.2.1 (Nat.le_refl _) (.slice ao3 n n) (.int .i64 x1) (.int .i64 x2))
      have HE3 : Hid (Fresh wA (((w3.setCell ⟨wA.heap.size, 0, none⟩ (.slice ao3 n n)).setCell ⟨wA.heap.size, 1, none⟩ (.int .i64 x1)).setCell ⟨wA.heap.size, 2, none⟩ (.int .i64 x2)) ao3 xs) := by
        rcases HG3.out.2.2 with h9 | ⟨g9, e9, z9, i9⟩
        · exact .inl h9
        · exact .inr ⟨g9, e9, z9, Ints.block i9 (fun b e => set3_other _ _ _ (own_ne i9 HZZ.out (by decide) b e))⟩
      clear HG3 hS3 hSB hSA HKK hS0 hS1 HZZ z0 z1 z2 zz
      go_wp2_with fail
      go_meet
      exact ⟨wA.heap.size, ao3, rfl, rfl, HE.out, HE2.out, HE3.out, Nat.le_refl _⟩
  case rest =>
  obtain ⟨qs, ao1, rfl, rfl, hq1, hbB, hfr1, hqs⟩ := hcut
  have HQ1 := hid hq1
  have HKB := hid (HK0.out.trans (hbB.mono HK0.out.size))
  have HF1 := hid (hfr1.base HK0.out.size)
  have b1 := (hbB.block _ hqA).trans HB0.out
  clear hS0 hS1 HKK HW9 c0 q0 q1 hpA HB0 HF hfr1
  obtain ⟨_, c1, hpA⟩ := HT1.out _ HKB.out
  obtain ⟨q0, q1, q2, q3, q4, q5⟩ := blk6 b1
  have hqB := lt_of_blk' b1
  have HB1 := hid b1
  have hS0' : wc.drew.cell? ⟨p, 1, none⟩ = some (.pointer (some ⟨pr, 0, none⟩)) ∧ wc.drew.cell? ⟨w.heap.size, 1, none⟩ = some (.int .i64 a) := ⟨c1, q1⟩
  have HKD := hid (below_drewn HKB.out)
  have HF2 := hid (HR2.out _ HKD.out)
  clear b1 q2 q3 q4 q5 hbB hq1
  go_upto_region 8 with fail
  go_region_held3 (fun w' => w'.cell? ⟨p, 1, none⟩ = some (.pointer (some ⟨pr, 0, none⟩)) ∧ w'.cell? ⟨w.heap.size, 1, none⟩ = some (.int .i64 a)) (first | with_reducible exact hS0' | with_reducible exact hS4 | go_keep) (first | (go_at_call 45; refine HF2.out.mono ?_; rintro e w2 ⟨ao2, rfl, HF2', hbb2⟩; have k2 := HKD.out.trans (hbb2.mono HKD.out.size); have b2 := (hbb2.block _ hqB).trans HB1.out; have hS4 : w2.cell? ⟨p, 1, none⟩ = some (.pointer (some ⟨pr, 0, none⟩)) ∧ w2.cell? ⟨w.heap.size, 1, none⟩ = some (.int .i64 a) := ⟨(HT1.out w2 k2).2.1, (blk6 b2).2.1⟩))
  have HL2 := hid (HF1.out.later (undrew hbb2))
  have HR3 := hid (HF2'.out.base HKD.out.size)
  have HK2 := hid k2
  have HS2 := hid (HSM.out ao1 ao2 w2 HL2.out HR3.out)
  have hq2 := (hbb2.block _ (lt_of_blk' HQ1.out)).trans HQ1.out
  have HQ2 := hid hq2
  obtain ⟨g0, g1, g2, gz⟩ := blk3 hq2
  have hqz2 := lt_of_blk' hq2
  clear k2 b2 hbb2 hS4 hS0' HF2 HKD HB1 HF1 HF2' HSM HQ1 hq2 q0 q1 c1 hpA
  go_wp2_with fail
  refine HS2.out.mono ?_
  rintro e w3 ⟨rfl, hb3'⟩
  have HK3 := hid (HKP.out ao1 w3 (HK2.out.trans (hb3'.mono HK2.out.size)) (HL2.out.later hb3'))
  have hq3 := (hb3'.block _ hqz2).trans HQ2.out
  have HQ3 := hid hq3
  clear g0 g1 g2 gz
  obtain ⟨g0, g1, g2, gz⟩ := blk3 hq3
  have hqz3 := lt_of_blk' hq3
  clear hb3' HS2 HL2 HR3 HK2 HKP hq3 HQ2
  go_wp2_with fail
  refine HK3.out.mono ?_
  rintro e w4 ⟨rfl, hsp, hz4, hkeep⟩
  have hq4 := (hkeep qs (by omega) hqz3).trans HQ3.out
  clear g0 g1 g2 gz
  obtain ⟨g0, g1, g2, gz⟩ := blk3 hq4
  have hqz4 := lt_of_blk' hq4
  have HFIN := hid hsp
  clear hsp HK3 hkeep hq4
  go_wp2_with (go_at_call 11; refine (HNU.out _ _).mono ?_; rintro e w' ⟨rfl, hw⟩; obtain rfl := hw.symm)
  go_ret
  exact ⟨rfl, HFIN.out⟩

end Go.Proofs.YtklicjbpjigfdabGreat

/- DERIVED. One step on both desks: kinds 1 to 9, and what the caller writes. -/
namespace Go.Proofs.YtklicjbpjigfdabGreat
open Go.RowKit
attribute [local go_sem ↓] Go.wp_at_zero Go.wp_at_succ
set_option linter.unusedVariables false

set_option maxHeartbeats 1000000 in
theorem step1_any (p pd pr : Nat) (a b c : Int) (s : ByteArray) (vl : Value) (D : Dk) (M : List Le) (w0 w : World) (hvl : ∃ lo ln lc, vl = .slice lo ln lc) (h : LwSt w0 w p pd pr D D M) (hd : LInv D) (hx : ∀ i, i < M.length → (M.getD i Le.none).xs.length ≤ 1099511627776) (hm : M.length ≤ 4398046511104) (hs : s.size ≤ 140737488355328) (ha : -9223372036854775808 ≤ a ∧ a ≤ 9223372036854775807) (hb : -9223372036854775808 ≤ b ∧ b ≤ 9223372036854775807) :
    Calls Tryz.prog 7 #[.pointer (some ⟨p, 0, none⟩), opVal 1 a b c s vl] w fun e w' => e = .returned (.bool true) ∧ StepPost w0 p pd pr M w' := by
  obtain ⟨lo, ln, lc, rfl⟩ := hvl
  have hA := h.below (below_new_al (opBlk 1 a b c s (.slice lo ln lc)))
  have HC := hid (lfeed_any p pd pr a b c s (.slice lo ln lc) D M w0 _ hA hd hx hs)
  clear h hd hx hm hs ha hb hA
  go_enter Tryz.func7, Tryz.ntmps7
  go_wp2_with fail
  refine HC.out.mono ?_
  rintro e w1 ⟨rfl, hsp⟩
  have HSP := hid hsp
  clear hsp HC
  go_wp2_with fail
  go_ret
  exact ⟨rfl, HSP.out⟩

set_option maxHeartbeats 1000000 in
theorem step2_any (p pd pr : Nat) (a b c : Int) (s : ByteArray) (vl : Value) (D : Dk) (M : List Le) (w0 w : World) (hvl : ∃ lo ln lc, vl = .slice lo ln lc) (h : LwSt w0 w p pd pr D D M) (hd : LInv D) (hx : ∀ i, i < M.length → (M.getD i Le.none).xs.length ≤ 1099511627776) (hm : M.length ≤ 4398046511104) (hs : s.size ≤ 140737488355328) (ha : -9223372036854775808 ≤ a ∧ a ≤ 9223372036854775807) (hb : -9223372036854775808 ≤ b ∧ b ≤ 9223372036854775807) :
    Calls Tryz.prog 7 #[.pointer (some ⟨p, 0, none⟩), opVal 2 a b c s vl] w fun e w' => e = .returned (.bool true) ∧ StepPost w0 p pd pr M w' := by
  obtain ⟨lo, ln, lc, rfl⟩ := hvl
  have hA := h.below (below_new_al (opBlk 2 a b c s (.slice lo ln lc)))
  have HC := hid (lleft_any p pd pr 2 a b c s (.slice lo ln lc) D M w0 _ (by decide) hA hd hx)
  clear h hd hx hm hs ha hb hA
  go_enter Tryz.func7, Tryz.ntmps7
  go_wp2_with fail
  refine HC.out.mono ?_
  rintro e w1 ⟨rfl, hsp⟩
  have HSP := hid hsp
  clear hsp HC
  go_wp2_with fail
  go_ret
  exact ⟨rfl, HSP.out⟩

set_option maxHeartbeats 1000000 in
theorem step4_any (p pd pr : Nat) (a b c : Int) (s : ByteArray) (vl : Value) (D : Dk) (M : List Le) (w0 w : World) (hvl : ∃ lo ln lc, vl = .slice lo ln lc) (h : LwSt w0 w p pd pr D D M) (hd : LInv D) (hx : ∀ i, i < M.length → (M.getD i Le.none).xs.length ≤ 1099511627776) (hm : M.length ≤ 4398046511104) (hs : s.size ≤ 140737488355328) (ha : -9223372036854775808 ≤ a ∧ a ≤ 9223372036854775807) (hb : -9223372036854775808 ≤ b ∧ b ≤ 9223372036854775807) :
    Calls Tryz.prog 7 #[.pointer (some ⟨p, 0, none⟩), opVal 4 a b c s vl] w fun e w' => e = .returned (.bool true) ∧ StepPost w0 p pd pr M w' := by
  obtain ⟨lo, ln, lc, rfl⟩ := hvl
  have hA := h.below (below_new_al (opBlk 4 a b c s (.slice lo ln lc)))
  have HC := hid (ladd_any p pd pr a b c s (.slice lo ln lc) D M w0 _ hA hd hx)
  clear h hd hx hm hs ha hb hA
  go_enter Tryz.func7, Tryz.ntmps7
  go_wp2_with fail
  refine HC.out.mono ?_
  rintro e w1 ⟨rfl, hsp⟩
  have HSP := hid hsp
  clear hsp HC
  go_wp2_with fail
  go_ret
  exact ⟨rfl, HSP.out⟩

set_option maxHeartbeats 1000000 in
theorem step9_any (p pd pr : Nat) (a b c : Int) (s : ByteArray) (vl : Value) (D : Dk) (M : List Le) (w0 w : World) (hvl : ∃ lo ln lc, vl = .slice lo ln lc) (h : LwSt w0 w p pd pr D D M) (hd : LInv D) (hx : ∀ i, i < M.length → (M.getD i Le.none).xs.length ≤ 1099511627776) (hm : M.length ≤ 4398046511104) (hs : s.size ≤ 140737488355328) (ha : -9223372036854775808 ≤ a ∧ a ≤ 9223372036854775807) (hb : -9223372036854775808 ≤ b ∧ b ≤ 9223372036854775807) :
    Calls Tryz.prog 7 #[.pointer (some ⟨p, 0, none⟩), opVal 9 a b c s vl] w fun e w' => e = .returned (.bool true) ∧ StepPost w0 p pd pr M w' := by
  obtain ⟨lo, ln, lc, rfl⟩ := hvl
  have hA := h.below (below_new_al (opBlk 9 a b c s (.slice lo ln lc)))
  have HC := hid (lmerge_any p pd pr a b c s (.slice lo ln lc) D M w0 _ hA hd hx)
  clear h hd hx hm hs ha hb hA
  go_enter Tryz.func7, Tryz.ntmps7
  go_wp2_with fail
  refine HC.out.mono ?_
  rintro e w1 ⟨rfl, hsp⟩
  have HSP := hid hsp
  clear hsp HC
  go_wp2_with fail
  go_ret
  exact ⟨rfl, HSP.out⟩

set_option maxHeartbeats 1000000 in
theorem step5_any (p pd pr : Nat) (a b c : Int) (s : ByteArray) (vl : Value) (D : Dk) (M : List Le) (w0 w : World) (hvl : ∃ lo ln lc, vl = .slice lo ln lc) (h : LwSt w0 w p pd pr D D M) (hd : LInv D) (hx : ∀ i, i < M.length → (M.getD i Le.none).xs.length ≤ 1099511627776) (hm : M.length ≤ 4398046511104) (hs : s.size ≤ 140737488355328) (ha : -9223372036854775808 ≤ a ∧ a ≤ 9223372036854775807) (hb : -9223372036854775808 ≤ b ∧ b ≤ 9223372036854775807) :
    Calls Tryz.prog 7 #[.pointer (some ⟨p, 0, none⟩), opVal 5 a b c s vl] w fun e w' => e = .returned (.bool true) ∧ StepPost w0 p pd pr M w' := by
  obtain ⟨lo, ln, lc, rfl⟩ := hvl
  have hA := h.below (below_new_al (opBlk 5 a b c s (.slice lo ln lc)))
  have HC := hid (lsize_any p pd pr a b c s (.slice lo ln lc) D M w0 _ hA hd hx)
  clear h hd hx hm hs ha hb hA
  go_enter Tryz.func7, Tryz.ntmps7
  go_wp2_with fail
  refine HC.out.mono ?_
  rintro e w1 ⟨rfl, hsp⟩
  have HSP := hid hsp
  clear hsp HC
  go_wp2_with fail
  go_ret
  exact ⟨rfl, HSP.out⟩

set_option maxHeartbeats 1000000 in
theorem step6_any (p pd pr : Nat) (a b c : Int) (s : ByteArray) (vl : Value) (D : Dk) (M : List Le) (w0 w : World) (hvl : ∃ lo ln lc, vl = .slice lo ln lc) (h : LwSt w0 w p pd pr D D M) (hd : LInv D) (hx : ∀ i, i < M.length → (M.getD i Le.none).xs.length ≤ 1099511627776) (hm : M.length ≤ 4398046511104) (hs : s.size ≤ 140737488355328) (ha : -9223372036854775808 ≤ a ∧ a ≤ 9223372036854775807) (hb : -9223372036854775808 ≤ b ∧ b ≤ 9223372036854775807) :
    Calls Tryz.prog 7 #[.pointer (some ⟨p, 0, none⟩), opVal 6 a b c s vl] w fun e w' => e = .returned (.bool true) ∧ StepPost w0 p pd pr M w' := by
  obtain ⟨lo, ln, lc, rfl⟩ := hvl
  have hA := h.below (below_new_al (opBlk 6 a b c s (.slice lo ln lc)))
  have HC := hid (lends_any p pd pr a b c s (.slice lo ln lc) D M w0 _ hA hd hx)
  clear h hd hx hm hs ha hb hA
  go_enter Tryz.func7, Tryz.ntmps7
  go_wp2_with fail
  refine HC.out.mono ?_
  rintro e w1 ⟨rfl, hsp⟩
  have HSP := hid hsp
  clear hsp HC
  go_wp2_with fail
  go_ret
  exact ⟨rfl, HSP.out⟩

set_option maxHeartbeats 1000000 in
theorem step7_any (p pd pr : Nat) (a b c : Int) (s : ByteArray) (vl : Value) (D : Dk) (M : List Le) (w0 w : World) (hvl : ∃ lo ln lc, vl = .slice lo ln lc) (h : LwSt w0 w p pd pr D D M) (hd : LInv D) (hx : ∀ i, i < M.length → (M.getD i Le.none).xs.length ≤ 1099511627776) (hm : M.length ≤ 4398046511104) (hs : s.size ≤ 140737488355328) (ha : -9223372036854775808 ≤ a ∧ a ≤ 9223372036854775807) (hb : -9223372036854775808 ≤ b ∧ b ≤ 9223372036854775807) :
    Calls Tryz.prog 7 #[.pointer (some ⟨p, 0, none⟩), opVal 7 a b c s vl] w fun e w' => e = .returned (.bool true) ∧ StepPost w0 p pd pr M w' := by
  obtain ⟨lo, ln, lc, rfl⟩ := hvl
  have hA := h.below (below_new_al (opBlk 7 a b c s (.slice lo ln lc)))
  have HC := hid (llevel_any p pd pr a b c s (.slice lo ln lc) D M w0 _ hA hd hx hm)
  clear h hd hx hm hs ha hb hA
  go_enter Tryz.func7, Tryz.ntmps7
  go_wp2_with fail
  refine HC.out.mono ?_
  rintro e w1 ⟨rfl, hsp⟩
  have HSP := hid hsp
  clear hsp HC
  go_wp2_with fail
  go_ret
  exact ⟨rfl, HSP.out⟩

set_option maxHeartbeats 1000000 in
theorem step8_any (p pd pr : Nat) (a b c : Int) (s : ByteArray) (vl : Value) (D : Dk) (M : List Le) (w0 w : World) (hvl : ∃ lo ln lc, vl = .slice lo ln lc) (h : LwSt w0 w p pd pr D D M) (hd : LInv D) (hx : ∀ i, i < M.length → (M.getD i Le.none).xs.length ≤ 1099511627776) (hm : M.length ≤ 4398046511104) (hs : s.size ≤ 140737488355328) (ha : -9223372036854775808 ≤ a ∧ a ≤ 9223372036854775807) (hb : -9223372036854775808 ≤ b ∧ b ≤ 9223372036854775807) :
    Calls Tryz.prog 7 #[.pointer (some ⟨p, 0, none⟩), opVal 8 a b c s vl] w fun e w' => e = .returned (.bool true) ∧ StepPost w0 p pd pr M w' := by
  obtain ⟨lo, ln, lc, rfl⟩ := hvl
  have hA := h.below (below_new_al (opBlk 8 a b c s (.slice lo ln lc)))
  have HC := hid (lledger_any p pd pr 8 a b c s (.slice lo ln lc) D M w0 _ (by decide) hA hd hx hm)
  clear h hd hx hm hs ha hb hA
  go_enter Tryz.func7, Tryz.ntmps7
  go_wp2_with fail
  refine HC.out.mono ?_
  rintro e w1 ⟨rfl, hsp⟩
  have HSP := hid hsp
  clear hsp HC
  go_wp2_with fail
  go_ret
  exact ⟨rfl, HSP.out⟩

set_option maxHeartbeats 1000000 in
theorem step17_any (p pd pr : Nat) (a b c : Int) (s : ByteArray) (vl : Value) (D : Dk) (M : List Le) (w0 w : World) (hvl : ∃ lo ln lc, vl = .slice lo ln lc) (h : LwSt w0 w p pd pr D D M) (hd : LInv D) (hx : ∀ i, i < M.length → (M.getD i Le.none).xs.length ≤ 1099511627776) (hm : M.length ≤ 4398046511104) (hs : s.size ≤ 140737488355328) (ha : -9223372036854775808 ≤ a ∧ a ≤ 9223372036854775807) (hb : -9223372036854775808 ≤ b ∧ b ≤ 9223372036854775807) :
    Calls Tryz.prog 7 #[.pointer (some ⟨p, 0, none⟩), opVal 17 a b c s vl] w fun e w' => e = .returned (.bool true) ∧ StepPost w0 p pd pr M w' := by
  obtain ⟨lo, ln, lc, rfl⟩ := hvl
  have hA := h.below (below_new_al (opBlk 17 a b c s (.slice lo ln lc)))
  have HC := hid (writes_any p pd pr a b c D D M w0 _ hA ha hb hm hx)
  have HPO : Hid (∀ W, LwSt w0 W p pd pr D D (wrM M a b c) → StepPost w0 p pd pr M W) := fun W hW => ⟨D, wrM M a b c, hW, hd, by rw [wrM_length]; omega, fun i hi => by rw [wrM_xs]; exact hx i (by rw [wrM_length] at hi; exact hi)⟩
  clear h hd hx hm hs ha hb hA
  go_enter Tryz.func7, Tryz.ntmps7
  go_wp2_with fail
  refine HC.out.mono ?_
  rintro e w1 ⟨rfl, hsp⟩
  have HSP := hid (HPO.out w1 hsp)
  clear hsp HC HPO
  go_wp2_with fail
  go_ret
  exact ⟨rfl, HSP.out⟩

set_option maxHeartbeats 1000000 in
theorem step0_any (p pd pr : Nat) (kd : Int) (a b c : Int) (s : ByteArray) (vl : Value) (D : Dk) (M : List Le) (w0 w : World) (hvl : ∃ lo ln lc, vl = .slice lo ln lc) (h : LwSt w0 w p pd pr D D M) (hd : LInv D) (hx : ∀ i, i < M.length → (M.getD i Le.none).xs.length ≤ 1099511627776) (hm : M.length ≤ 4398046511104) (hs : s.size ≤ 140737488355328) (ha : -9223372036854775808 ≤ a ∧ a ≤ 9223372036854775807) (hb : -9223372036854775808 ≤ b ∧ b ≤ 9223372036854775807) (hk : kd < 1 ∨ 17 < kd) :
    Calls Tryz.prog 7 #[.pointer (some ⟨p, 0, none⟩), opVal kd a b c s vl] w fun e w' => e = .returned (.bool true) ∧ StepPost w0 p pd pr M w' := by
  obtain ⟨lo, ln, lc, rfl⟩ := hvl
  have HFIN : Hid (StepPost w0 p pd pr M (w.alloc (opBlk kd a b c s (.slice lo ln lc)))) := StepPost.same (h.below (below_new_al _)) hd hx
  have f1 : (kd == 1) = false := by simp; omega
  have f2 : (kd == 2) = false := by simp; omega
  have f3 : (kd == 3) = false := by simp; omega
  have f4 : (kd == 4) = false := by simp; omega
  have f5 : (kd == 5) = false := by simp; omega
  have f6 : (kd == 6) = false := by simp; omega
  have f7 : (kd == 7) = false := by simp; omega
  have f8 : (kd == 8) = false := by simp; omega
  have f9 : (kd == 9) = false := by simp; omega
  have f10 : (kd == 10) = false := by simp; omega
  have f11 : (kd == 11) = false := by simp; omega
  have f12 : (kd == 12) = false := by simp; omega
  have f13 : (kd == 13) = false := by simp; omega
  have f14 : (kd == 14) = false := by simp; omega
  have f15 : (kd == 15) = false := by simp; omega
  have f16 : (kd == 16) = false := by simp; omega
  have f17 : (kd == 17) = false := by simp; omega
  clear h hd hx hm hs ha hb hk
  go_enter Tryz.func7, Tryz.ntmps7
  go_wp2_with fail
  go_ret
  exact ⟨rfl, HFIN.out⟩

set_option maxHeartbeats 2000000 in
set_option maxRecDepth 100000 in
theorem step3_any (p pd pr : Nat) (a b c : Int) (s : ByteArray) (vl : Value) (D : Dk) (M : List Le) (w0 w : World) (hvl : ∃ lo ln lc, vl = .slice lo ln lc) (h : LwSt w0 w p pd pr D D M) (hd : LInv D) (hx : ∀ i, i < M.length → (M.getD i Le.none).xs.length ≤ 1099511627776) (hm : M.length ≤ 4398046511104) (hs : s.size ≤ 140737488355328) (ha : -9223372036854775808 ≤ a ∧ a ≤ 9223372036854775807) (hb : -9223372036854775808 ≤ b ∧ b ≤ 9223372036854775807) :
    Calls Tryz.prog 7 #[.pointer (some ⟨p, 0, none⟩), opVal 3 a b c s vl] w fun e w' => e = .returned (.bool true) ∧ StepPost w0 p pd pr M w' := by
  obtain ⟨lo, ln, lc, rfl⟩ := hvl
  have k0 := (h.box (opBlk 3 a b c s (.slice lo ln lc))).drew
  have b0 : (w.alloc (opBlk 3 a b c s (.slice lo ln lc))).drew.heap[w.heap.size]? = some (opBlk 3 a b c s (.slice lo ln lc)) := heap_alloc_new w _
  obtain ⟨F, hdk, hstep⟩ := k0.prog
  have HF := hid (openT pd a D _ hdk hd.inv)
  have HST := hid hstep
  obtain ⟨c0, c1, hpz, hqz⟩ := k0.cells
  obtain ⟨q0, q1, q2, q3, q4, q5⟩ := blk6 b0
  have HB0 := hid b0
  have HR2 := hid (fun (G : Nat → Prop) (W : World) (hr : RAt G W pr D) => ropen_any pr a D W hr hd)
  have HNU := hid (fun (v : Int) (W : World) => lnum_any v W)
  have HLI := hid hd
  have HX := hid hx
  have hS0 : (w.alloc (opBlk 3 a b c s (.slice lo ln lc))).drew.cell? ⟨p, 0, none⟩ = some (.pointer (some ⟨pd, 0, none⟩)) ∧ (w.alloc (opBlk 3 a b c s (.slice lo ln lc))).drew.cell? ⟨w.heap.size, 1, none⟩ = some (.int .i64 a) := ⟨c0, q1⟩
  have c0' : (w.alloc (opBlk 3 a b c s (.slice lo ln lc))).cell? ⟨p, 0, none⟩ = some (.pointer (some ⟨pd, 0, none⟩)) := c0
  have hpz' : p < (w.alloc (opBlk 3 a b c s (.slice lo ln lc))).heap.size := hpz
  clear h k0 hdk hstep hd hx b0 c0 c1 hpz q1 q2 q3 q4 q5 hm hs ha hb
  go_enter Tryz.func7, Tryz.ntmps7
  go_wp2_with fail
  go_region_held3 (fun w' => w'.cell? ⟨p, 0, none⟩ = some (.pointer (some ⟨pd, 0, none⟩)) ∧ w'.cell? ⟨w.heap.size, 1, none⟩ = some (.int .i64 a)) (first | with_reducible exact hS0 | with_reducible exact hS3 | go_keep) (first | (go_at_call 13; refine HF.out.mono ?_; rintro e w1 ⟨v1, c1, D1, rfl, hst1, hr1⟩; obtain ⟨k1, e1⟩ := HST.out w1 D1 hst1; have b1 := e1.trans HB0.out; have hS3 : w1.cell? ⟨p, 0, none⟩ = some (.pointer (some ⟨pd, 0, none⟩)) ∧ w1.cell? ⟨w.heap.size, 1, none⟩ = some (.int .i64 a) := ⟨k1.cells.1, (blk6 b1).2.1⟩))
  have HK1 := hid k1.drew
  have HB1 : Hid (w1.drew.heap[w.heap.size]? = some (opBlk 3 a b c s (.slice lo ln lc))) := b1
  have HRL1 := hid hr1
  obtain ⟨d0, d1, hpz1, hqz1⟩ := k1.cells
  obtain ⟨y0, y1, y2, y3, y4, y5⟩ := blk6 b1
  have hS0' : w1.drew.cell? ⟨p, 1, none⟩ = some (.pointer (some ⟨pr, 0, none⟩)) ∧ w1.drew.cell? ⟨w.heap.size, 1, none⟩ = some (.int .i64 a) := ⟨d1, y1⟩
  clear hS0 hS3 k1 e1 b1 hr1 hst1 HF HST HB0 y1 y2 y3 y4 y5 d0 q0 c0' hpz'
  obtain ⟨G, hra, hstep2⟩ := HK1.out.doc
  have HF2 := hid (HR2.out G _ hra)
  have HST2 := hid hstep2
  clear hra hstep2 HR2
  go_wp2_with fail
  go_region_held3 (fun w' => w'.cell? ⟨p, 1, none⟩ = some (.pointer (some ⟨pr, 0, none⟩)) ∧ w'.cell? ⟨w.heap.size, 1, none⟩ = some (.int .i64 a)) (first | with_reducible exact hS0' | with_reducible exact hS4 | go_keep) (first | (go_at_call 14; refine HF2.out.mono ?_; rintro e w2 ⟨v2, c2, D2, rfl, hst2, hr2⟩; obtain ⟨k2, e2⟩ := HST2.out w2 D2 hst2; have b2 := e2.trans HB1.out; have hS4 : w2.cell? ⟨p, 1, none⟩ = some (.pointer (some ⟨pr, 0, none⟩)) ∧ w2.cell? ⟨w.heap.size, 1, none⟩ = some (.int .i64 a) := ⟨k2.cells.2.1, (blk6 b2).2.1⟩))
  obtain ⟨hvv, hcc, hDD⟩ := HRL1.out.det hr2
  subst hvv
  subst hcc
  subst hDD
  have HFIN : Hid (StepPost w0 p pd pr M w2) := StepPost.same k2.st (hr2.linv HLI.out) HX.out
  clear k2 e2 b2 hr2 hst2 hS4 hS0' HST2 HF2 HK1 HB1 HRL1
  have hcb : (c1 == c1) = true := by simp
  have hvb : (v1 == v1) = true := by simp
  go_wp2_with (go_at_call 11; refine (HNU.out _ _).mono ?_; rintro e w' ⟨rfl, hw⟩; obtain rfl := hw.symm)
  go_ret
  exact ⟨rfl, HFIN.out⟩

/-- One step, of those kinds. -/
theorem stepA_any (p pd pr : Nat) (kd : Int) (a b c : Int) (s : ByteArray) (vl : Value) (D : Dk) (M : List Le) (w0 w : World) (hvl : ∃ lo ln lc, vl = .slice lo ln lc) (h : LwSt w0 w p pd pr D D M) (hd : LInv D) (hx : ∀ i, i < M.length → (M.getD i Le.none).xs.length ≤ 1099511627776) (hm : M.length ≤ 4398046511104) (hs : s.size ≤ 140737488355328) (ha : -9223372036854775808 ≤ a ∧ a ≤ 9223372036854775807) (hb : -9223372036854775808 ≤ b ∧ b ≤ 9223372036854775807) (hk : kd ≤ 9 ∨ kd = 17) :
    Calls Tryz.prog 7 #[.pointer (some ⟨p, 0, none⟩), opVal kd a b c s vl] w fun e w' => e = .returned (.bool true) ∧ StepPost w0 p pd pr M w' := by
  by_cases h1 : kd < 1 ∨ 17 < kd
  · exact step0_any p pd pr kd a b c s vl D M w0 w hvl h hd hx hm hs ha hb h1
  · obtain ⟨k, rfl⟩ : ∃ k : Nat, kd = (k : Int) := ⟨kd.toNat, by omega⟩
    have h2 : k = 1 ∨ k = 2 ∨ k = 3 ∨ k = 4 ∨ k = 5 ∨ k = 6 ∨ k = 7 ∨ k = 8 ∨ k = 9 ∨ k = 17 := by omega
    rcases h2 with rfl | rfl | rfl | rfl | rfl | rfl | rfl | rfl | rfl | rfl
    · exact step1_any p pd pr a b c s vl D M w0 w hvl h hd hx hm hs ha hb
    · exact step2_any p pd pr a b c s vl D M w0 w hvl h hd hx hm hs ha hb
    · exact step3_any p pd pr a b c s vl D M w0 w hvl h hd hx hm hs ha hb
    · exact step4_any p pd pr a b c s vl D M w0 w hvl h hd hx hm hs ha hb
    · exact step5_any p pd pr a b c s vl D M w0 w hvl h hd hx hm hs ha hb
    · exact step6_any p pd pr a b c s vl D M w0 w hvl h hd hx hm hs ha hb
    · exact step7_any p pd pr a b c s vl D M w0 w hvl h hd hx hm hs ha hb
    · exact step8_any p pd pr a b c s vl D M w0 w hvl h hd hx hm hs ha hb
    · exact step9_any p pd pr a b c s vl D M w0 w hvl h hd hx hm hs ha hb
    · exact step17_any p pd pr a b c s vl D M w0 w hvl h hd hx hm hs ha hb

end Go.Proofs.YtklicjbpjigfdabGreat

/- DERIVED. A script is played on both desks. -/
namespace Go.Proofs.YtklicjbpjigfdabGreat
open Go.RowKit
attribute [local go_sem ↓] Go.wp_at_zero Go.wp_at_succ

set_option maxHeartbeats 400000 in
theorem begun_no (room : Int) (w : World) (h : room < 1 ∨ 8 < room) :
    Calls Tryz.prog 6 #[.int .i64 room] w fun e w' => e = .returned (.tuple #[.pointer none, .bool true]) ∧ w' = w := by
  have HN := hid (new_no room w (by omega))
  have HR := hid (rnew_no room w h)
  have HNU := hid (fun (v : Int) (W : World) => lnum_any v W)
  clear h
  go_enter Tryz.func6, Tryz.ntmps6
  go_wp2_with (first | (go_at_call 9; refine HN.out.mono ?_; rintro e w' ⟨rfl, hw⟩; obtain rfl := hw.symm) | (go_at_call 10; refine HR.out.mono ?_; rintro e w' ⟨rfl, hw⟩; obtain rfl := hw.symm) | (go_at_call 11; refine (HNU.out _ _).mono ?_; rintro e w' ⟨rfl, hw⟩; obtain rfl := hw.symm))
  go_ret2
  exact ⟨rfl, rfl⟩

/-- The world of two new desks. -/
theorem lw_first {w w1 : World} {room : Nat} (hd : DeskAt (fun b => b = w.heap.size) w1 w.heap.size ⟨room, [], []⟩) (hb : Below w.heap.size w w1) (hz : w.heap.size < w1.heap.size) :
    LwSt w ((w1.alloc (rdBlk (room : Int) ⟨#[]⟩ (.slice none 0 0))).alloc (lwBlk w.heap.size w1.heap.size (.slice none 0 0) (.slice none 0 0))) (w1.heap.size + 1) w.heap.size w1.heap.size ⟨room, [], []⟩ ⟨room, [], []⟩ [] := by
  have b1 := below_new_al (w := w1) (rdBlk (room : Int) ⟨#[]⟩ (.slice none 0 0))
  have b2 := below_new_al (w := w1.alloc (rdBlk (room : Int) ⟨#[]⟩ (.slice none 0 0))) (lwBlk w.heap.size w1.heap.size (.slice none 0 0) (.slice none 0 0))
  have z1 : (w1.alloc (rdBlk (room : Int) ⟨#[]⟩ (.slice none 0 0))).heap.size = w1.heap.size + 1 := by simp
  refine ⟨fun b => if b = w.heap.size then 1 else if b = w1.heap.size then 2 else if b = w1.heap.size + 1 then 4 else 0, .slice none 0 0, .slice none 0 0, ⟨?_, ?_, ?_, ?_, World.ownsRow_nil _ _ _ _, World.ownsRow_nil _ _ _ _, (fun b e => by cases e), (fun b e => by cases e), (fun i hi => by simp at hi), (fun i hi => by simp at hi), (fun i hi => by simp at hi), (fun i hi => by simp at hi), (fun i hi => by simp at hi), ?_⟩, ?_, hb.trans ((b1.trans (b2.mono b1.size)).mono hb.size)⟩
  · have := heap_alloc_new (w1.alloc (rdBlk (room : Int) ⟨#[]⟩ (.slice none 0 0))) (lwBlk w.heap.size w1.heap.size (.slice none 0 0) (.slice none 0 0))
    rw [z1] at this
    exact this
  · rw [if_neg (by omega), if_neg (by omega), if_pos rfl]
  · have e : (fun b => (if b = w.heap.size then 1 else if b = w1.heap.size then 2 else if b = w1.heap.size + 1 then 4 else 0) = 1) = fun b => b = w.heap.size := pred_eq fun b => by
      constructor
      · intro e; split at e
        · assumption
        · split at e
          · omega
          · split at e <;> omega
      · intro e; rw [if_pos e]
    rw [e]
    exact (hd.below b1).below b2
  · have e : (fun b => (if b = w.heap.size then 1 else if b = w1.heap.size then 2 else if b = w1.heap.size + 1 then 4 else 0) = 2) = fun b => b = w1.heap.size := pred_eq fun b => by
      constructor
      · intro e; split at e
        · omega
        · split at e
          · assumption
          · split at e <;> omega
      · intro e; rw [if_neg (by omega), if_pos e]
    rw [e]
    refine RAt.below ⟨⟨#[]⟩, .slice none 0 0, [], ⟨heap_alloc_new _ _, rfl, rfl, rfl, World.ownsRow_nil _ _ _ _, (fun b e => by cases e), rfl, (fun i hi => by simp at hi), (fun i hi => by simp at hi), (fun b e => by rw [e]; simp)⟩⟩ b2
  · intro b hb'
    have z2 : ((w1.alloc (rdBlk (room : Int) ⟨#[]⟩ (.slice none 0 0))).alloc (lwBlk w.heap.size w1.heap.size (.slice none 0 0) (.slice none 0 0))).heap.size = w1.heap.size + 1 + 1 := by simp
    rw [z2]
    by_cases e1 : b = w.heap.size
    · omega
    · by_cases e2 : b = w1.heap.size
      · omega
      · by_cases e3 : b = w1.heap.size + 1
        · omega
        · simp [e1, e2, e3] at hb'
  · intro b hb'
    have := hb.size
    by_cases e1 : b = w.heap.size
    · omega
    · by_cases e2 : b = w1.heap.size
      · omega
      · by_cases e3 : b = w1.heap.size + 1
        · omega
        · simp [e1, e2, e3] at hb'

set_option maxHeartbeats 1000000 in
theorem begun_ok (room : Nat) (w : World) (h1 : 1 ≤ room) (h2 : room ≤ 8) :
    Calls Tryz.prog 6 #[.int .i64 (room : Int)] w fun e w' => ∃ p pd pr, e = .returned (.tuple #[.pointer (some ⟨p, 0, none⟩), .bool true]) ∧ LwSt w w' p pd pr ⟨room, [], []⟩ ⟨room, [], []⟩ [] := by
  have HN := hid (new_any room w h1 h2)
  have HR := hid (fun (W : World) => rnew_ok room W h1 h2)
  have HNU := hid (fun (v : Int) (W : World) => lnum_any v W)
  have HLF := hid (fun (w1 : World) => lw_first (w := w) (w1 := w1) (room := room))
  clear h1 h2
  go_enter Tryz.func6, Tryz.ntmps6
  go_wp2_with fail
  refine HN.out.mono ?_
  rintro e w1 ⟨rfl, hd1, hb1⟩
  have hz1 : w.heap.size < w1.heap.size := by
    obtain ⟨vt, vk, rs, hin⟩ := hd1
    exact hin.flt _ rfl
  have HL := hid (HLF.out w1 hd1 hb1 hz1)
  clear hd1 hb1 HLF HN
  go_wp2_with fail
  refine (HR.out _).mono ?_
  rintro e w2 ⟨rfl, hw2⟩
  subst hw2
  go_wp2_with (go_at_call 11; refine (HNU.out _ _).mono ?_; rintro e w' ⟨rfl, hw⟩; obtain rfl := hw.symm)
  go_ret2
  exact ⟨_, _, _, rfl, HL.out⟩

/-- A step of a script. -/
structure Opr where
  kd : Int
  a : Int
  b : Int
  c : Int
  s : ByteArray
  vl : Value
def Opr.zero : Opr := ⟨0, 0, 0, 0, ByteArray.empty, .slice none 0 0⟩
def OpsAt (w : World) (ao : Option Addr) (n : Nat) (os : List Opr) : Prop := ∀ i, i < n → ∃ b off, ao = some ⟨b, off, none⟩ ∧ b < w.heap.size ∧ w.cell? ⟨b, off + i * 6, none⟩ = some (.int .i64 (os.getD i Opr.zero).kd) ∧ w.cell? ⟨b, off + i * 6 + 1, none⟩ = some (.int .i64 (os.getD i Opr.zero).a) ∧ w.cell? ⟨b, off + i * 6 + 2, none⟩ = some (.int .i64 (os.getD i Opr.zero).b) ∧ w.cell? ⟨b, off + i * 6 + 3, none⟩ = some (.int .i64 (os.getD i Opr.zero).c) ∧ w.cell? ⟨b, off + i * 6 + 4, none⟩ = some (.string (os.getD i Opr.zero).s) ∧ w.cell? ⟨b, off + i * 6 + 5, none⟩ = some (os.getD i Opr.zero).vl
structure Opr.Ok (o : Opr) : Prop where
  a1 : -9223372036854775808 ≤ o.a ∧ o.a ≤ 9223372036854775807
  b1 : -9223372036854775808 ≤ o.b ∧ o.b ≤ 9223372036854775807
  s1 : o.s.size ≤ 140737488355328
  l1 : ∃ lo ln lc, o.vl = .slice lo ln lc

end Go.Proofs.YtklicjbpjigfdabGreat
