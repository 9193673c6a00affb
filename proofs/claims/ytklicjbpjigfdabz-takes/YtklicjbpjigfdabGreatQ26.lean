/- DERIVED. What Split answers, on both desks. -/
import Derived.Test.YtklicjbpjigfdabGreatQ23
import Derived.Test.YtklicjbpjigfdabGreatQ25
import Derived.Laws.CopyOwn
import Derived.Test.YtklicjbpjigfdabGreatQ24
namespace Go.Proofs.YtklicjbpjigfdabGreat
open Go.RowKit

/-- What Split answers: told by the desk and the arguments alone. -/
def SpTold (D : Dk) (A : Int) (C xs : List Int) (c : Int) : Prop :=
  (hasB A D.sks.length = false ∧ xs = [] ∧ c = 4) ∨
  (hasB A D.sks.length = true ∧ wsum (D.sks.getD A.toNat Hd.none).sk.lv = 0 ∧ xs = [] ∧ c = 8) ∨
  (hasB A D.sks.length = true ∧ wsum (D.sks.getD A.toNat Hd.none).sk.lv ≠ 0 ∧ 16 < C.length ∧ xs = [] ∧ c = 1) ∨
  (hasB A D.sks.length = true ∧ wsum (D.sks.getD A.toNat Hd.none).sk.lv ≠ 0 ∧ C.length ≤ 16 ∧ ¬ CutsUp C ∧ xs = [] ∧ c = 1) ∨
  (hasB A D.sks.length = true ∧ wsum (D.sks.getD A.toNat Hd.none).sk.lv ≠ 0 ∧ C.length ≤ 16 ∧ CutsUp C ∧ xs = partsOf (D.sks.getD A.toNat Hd.none).sk.lv C ∧ c = 0)
theorem spTold_ex (D : Dk) (A : Int) (C : List Int) : ∃ xs c, SpTold D A C xs c := by
  cases hs : hasB A D.sks.length with
  | false => exact ⟨[], 4, .inl ⟨hs, rfl, rfl⟩⟩
  | true =>
    by_cases h0 : wsum (D.sks.getD A.toNat Hd.none).sk.lv = 0
    · exact ⟨[], 8, .inr (.inl ⟨hs, h0, rfl, rfl⟩)⟩
    · by_cases h1 : 16 < C.length
      · exact ⟨[], 1, .inr (.inr (.inl ⟨hs, h0, h1, rfl, rfl⟩))⟩
      · by_cases h2 : CutsUp C
        · exact ⟨_, 0, .inr (.inr (.inr (.inr ⟨hs, h0, by omega, h2, rfl, rfl⟩)))⟩
        · exact ⟨[], 1, .inr (.inr (.inr (.inl ⟨hs, h0, by omega, h2, rfl, rfl⟩)))⟩
theorem partsOf_length (L : List Lvl) (C : List Int) : (partsOf L C).length = C.length + 1 := by simp [partsOf]
theorem SpTold.len {D : Dk} {A : Int} {C xs : List Int} {c : Int} (h : SpTold D A C xs c) : xs.length ≤ 17 := by
  rcases h with ⟨_, rfl, _⟩ | ⟨_, _, rfl, _⟩ | ⟨_, _, _, rfl, _⟩ | ⟨_, _, _, _, rfl, _⟩ | ⟨_, _, h1, _, rfl, _⟩
  · simp
  · simp
  · simp
  · simp
  · rw [partsOf_length]; omega
theorem splitT {F : Nat → Prop} (d n m cap : Nat) (ao : Option Addr) (A c : Int) (C xs : List Int) (D : Dk) (w : World) (h : DeskAt F w d D) (hd : LInv D) (hC : IntsG w ao n C) (hsp : SpTold D A C xs c) (hm : xs.length = m) :
    Calls Tryz.prog 78 #[.pointer (some ⟨d, 0, none⟩), .int .i64 A, .slice ao n cap] w fun e w' => ∃ bo, e = .returned (.tuple #[.slice bo m m, .int .i64 c]) ∧ Hid (Fresh w w' bo xs) ∧ Below w.heap.size w w' := by
  subst hm
  have hcl := hC.1
  rcases hsp with ⟨hs, rfl, rfl⟩ | ⟨hs, h0, rfl, rfl⟩ | ⟨hs, h0, h1, rfl, rfl⟩ | ⟨hs, h0, h1, h2, rfl, rfl⟩ | ⟨hs, h0, h1, h2, rfl, rfl⟩
  · exact (deskSplit_no d n cap ao A D w h hs).mono (fun e w' ⟨he, hw⟩ => ⟨none, he, .inl ⟨rfl, rfl⟩, by rw [hw]; exact Below.refl _ _⟩)
  · obtain ⟨i, rfl, hi⟩ := hasB_at hs
    rw [Int.toNat_natCast] at h0
    exact (deskSplit_bad d i n cap ao 8 D w h hi (hd.inv.sk i hi).ok (.inl ⟨h0, rfl⟩)).mono (fun e w' ⟨he, hb⟩ => ⟨none, he, .inl ⟨rfl, rfl⟩, hb⟩)
  · obtain ⟨i, rfl, hi⟩ := hasB_at hs
    rw [Int.toNat_natCast] at h0
    exact (deskSplit_bad d i n cap ao 1 D w h hi (hd.inv.sk i hi).ok (.inr ⟨h0, by omega, rfl⟩)).mono (fun e w' ⟨he, hb⟩ => ⟨none, he, .inl ⟨rfl, rfl⟩, hb⟩)
  · obtain ⟨i, rfl, hi⟩ := hasB_at hs
    rw [Int.toNat_natCast] at h0
    refine (deskSplit_any d i n cap ao C D w h hi (hd.inv.sk i hi).ok (fun j _ => ((hd.ok i hi).srt.at j).1) h0 hC (by omega)).mono (fun e w' ⟨hb, hp⟩ => ?_)
    rcases hp with ⟨_, he⟩ | ⟨h9, _⟩
    · exact ⟨none, he, .inl ⟨rfl, rfl⟩, hb⟩
    · exact absurd h9 h2
  · obtain ⟨i, rfl, hi⟩ := hasB_at hs
    rw [Int.toNat_natCast] at h0 ⊢
    refine (deskSplit_any d i n cap ao C D w h hi (hd.inv.sk i hi).ok (fun j _ => ((hd.ok i hi).srt.at j).1) h0 hC (by omega)).mono (fun e w' ⟨hb, hp⟩ => ?_)
    rcases hp with ⟨h9, _⟩ | ⟨_, gt, hg, he, ho⟩
    · exact absurd h2 h9
    · rw [partsOf_length]
      refine ⟨_, he, .inr ⟨gt, rfl, hg, ?_⟩, hb⟩
      rw [partsOf_length]
      have e9 := partsOf_length (D.sks.getD i Hd.none).sk.lv C
      rw [← e9] at ho ⊢
      exact Ints.of ho
theorem rsplitT {G : Nat → Prop} (d n m cap : Nat) (ao : Option Addr) (A c : Int) (C xs : List Int) (D : Dk) (w : World) (h : RAt G w d D) (hd : LInv D) (hC : IntsG w ao n C) (hsp : SpTold D A C xs c) (hm : xs.length = m) :
    Calls Tryz.prog 79 #[.pointer (some ⟨d, 0, none⟩), .int .i64 A, .slice ao n cap] w fun e w' => ∃ bo bc, e = .returned (.tuple #[.slice bo m bc, .int .i64 c]) ∧ Hid (IntsG w' bo m xs) ∧ Below w.heap.size w w' := by
  subst hm
  have hcl := hC.1
  have hnil : ∀ W, IntsG W none 0 [] := fun W => ⟨rfl, fun i hi => by omega⟩
  rcases hsp with ⟨hs, rfl, rfl⟩ | ⟨hs, h0, rfl, rfl⟩ | ⟨hs, h0, h1, rfl, rfl⟩ | ⟨hs, h0, h1, h2, rfl, rfl⟩ | ⟨hs, h0, h1, h2, rfl, rfl⟩
  · exact (rsplit_no d n cap ao A D w h hs).mono (fun e w' ⟨he, hw⟩ => ⟨none, 0, he, hnil _, by rw [hw]; exact Below.refl _ _⟩)
  · obtain ⟨i, rfl, hi⟩ := hasB_at hs
    rw [Int.toNat_natCast] at h0
    exact (rsplit_bad d i n cap ao 8 D w h hi (.inl ⟨h0, rfl⟩)).mono (fun e w' ⟨he, hw⟩ => ⟨none, 0, he, hnil _, by rw [hw]; exact Below.refl _ _⟩)
  · obtain ⟨i, rfl, hi⟩ := hasB_at hs
    rw [Int.toNat_natCast] at h0
    exact (rsplit_bad d i n cap ao 1 D w h hi (.inr ⟨h0, by omega, rfl⟩)).mono (fun e w' ⟨he, hw⟩ => ⟨none, 0, he, hnil _, by rw [hw]; exact Below.refl _ _⟩)
  · obtain ⟨i, rfl, hi⟩ := hasB_at hs
    rw [Int.toNat_natCast] at h0
    refine (rsplit_any d i n cap ao C D w h hd hi h0 hC (by omega)).mono (fun e w' ⟨hb, hp⟩ => ?_)
    rcases hp with ⟨_, he⟩ | ⟨h9, _⟩
    · exact ⟨none, 0, he, hnil _, hb⟩
    · exact absurd h9 h2
  · obtain ⟨i, rfl, hi⟩ := hasB_at hs
    rw [Int.toNat_natCast] at h0 ⊢
    refine (rsplit_any d i n cap ao C D w h hd hi h0 hC (by omega)).mono (fun e w' ⟨hb, hp⟩ => ?_)
    rcases hp with ⟨h9, _⟩ | ⟨_, bo, bc, he, ho⟩
    · exact absurd h2 h9
    · rw [partsOf_length]
      refine ⟨_, _, he, ?_, hb⟩
      have e9 := partsOf_length (D.sks.getD i Hd.none).sk.lv C
      rw [← e9] at ho ⊢
      exact (Ints.of ho).gen

end Go.Proofs.YtklicjbpjigfdabGreat

/- DERIVED. The list that the law hands in to Split. -/
namespace Go.Proofs.YtklicjbpjigfdabGreat
open Go.RowKit
attribute [local go_sem ↓] Go.wp_at_zero Go.wp_at_succ

/-- A row of n cells lies in block g. -/
theorem own_row {w : World} {b g n : Nat} {xs : List Value} (h : w.ownsRow b 3 1 (.slice (some ⟨g, 0, none⟩) n n) n xs) : ∃ cur : List Value, w.heap[g]? = some (.cells cur.toArray 3 (0, 0)) ∧ cur.length = n := by
  rcases h.2 with ⟨e', _⟩ | ⟨g', cap, cur, e', _, hh, _, _, r, _⟩
  · cases e'
  · cases e'
    exact ⟨cur.toList, by simpa using hh, by simpa using r⟩
theorem splice_two {cur cs : List Value} {n : Nat} (h1 : cur.length = n + 2) (h2 : cs.length = n) : ∃ x y, splice cur 0 cs = cs ++ [x, y] := by
  have h3 : (cur.drop n).length = 2 := by rw [List.length_drop]; omega
  match hd : cur.drop n, h3 with
  | [x, y], _ => exact ⟨x, y, by unfold splice; rw [h2, Nat.zero_add, hd]; rfl⟩

/-- The list that is handed in, with its spare room. -/
def InR (w : World) (g : Nat) (C : List Int) (x y : Value) : Prop := w.heap[g]? = some (.cells (ints C ++ [x, y]).toArray 3 (0, 0))
theorem InR.c0 {w : World} {g : Nat} {C : List Int} {x y : Value} {n : Nat} (h : InR w g C x y) (hn : C.length = n) : w.cell? ⟨g, n, none⟩ = some x ∧ w.cell? ⟨g, n + 1, none⟩ = some y ∧ (∀ o, w.frozen? ⟨g, o, none⟩ = false) := by
  unfold InR at h
  have e : (ints C).length = n := by rw [ints_length]; exact hn
  refine ⟨?_, ?_, fun o => ?_⟩
  · simp [World.cell?, h, e]
  · simp [World.cell?, h, e]
  · simp [World.frozen?, h]
theorem InR.set0 {w : World} {g : Nat} {C : List Int} {x y : Value} {n : Nat} (h : InR w g C x y) (hn : C.length = n) (v : Value) : InR (w.setCell ⟨g, n, none⟩ v) g C v y := by
  have e : (ints C).length = n := by rw [ints_length]; exact hn
  have := blk_set (i := n) v h
  unfold InR
  rw [this]
  simp [e]
theorem InR.set1 {w : World} {g : Nat} {C : List Int} {x y : Value} {n : Nat} (h : InR w g C x y) (hn : C.length = n) (v : Value) : InR (w.setCell ⟨g, n + 1, none⟩ v) g C x v := by
  have e : (ints C).length = n := by rw [ints_length]; exact hn
  have := blk_set (i := n + 1) v h
  unfold InR
  rw [this]
  simp [e]
theorem InR.gen {w : World} {g : Nat} {C : List Int} {x y : Value} {n : Nat} (h : InR w g C x y) (hn : C.length = n) : IntsG w (some ⟨g, 0, none⟩) n C := by
  refine ⟨hn, fun i hi => ⟨g, 0, rfl, lt_of_blk' h, ?_⟩⟩
  unfold InR at h
  rw [Nat.zero_add]
  have e2 : i < C.length := by omega
  simp [World.cell?, h, List.getElem?_append, ints, List.getD, e2]

theorem InR.later {w w' : World} {g : Nat} {C : List Int} {x y : Value} (h : InR w g C x y) (hb : Below w.heap.size w w') : InR w' g C x y := (hb.block g (lt_of_blk' h)).trans h

end Go.Proofs.YtklicjbpjigfdabGreat

/- DERIVED. One step on both desks: Split. -/
namespace Go.Proofs.YtklicjbpjigfdabGreat
open Go.RowKit
attribute [local go_sem ↓] Go.wp_at_zero Go.wp_at_succ

theorem Fresh.except {w wX wY : World} {ao : Option Addr} {xs : List Int} (h : Fresh w wX ao xs) (hs : ∀ b, w.heap.size ≤ b → wY.heap[b]? = wX.heap[b]?) : Fresh w wY ao xs := by
  rcases h with h | ⟨g, h1, h2, h3⟩
  · exact .inl h
  · exact .inr ⟨g, h1, h2, ownsRow_block h3 (fun b hb => by simp [Value.ownBlock] at hb; subst hb; exact hs _ h2)⟩
/-- The list that was handed in, when it is the caller's again. -/
structure Wr (g n : Nat) (w wX wr : World) : Prop where
  row : ∃ cur : List Value, wr.heap[g]? = some (.cells cur.toArray 3 (0, 0)) ∧ cur.length = n
  oth : ∀ b, b ≠ g → wr.heap[b]? = wX.heap[b]?
  bel : Below w.heap.size w wr
theorem Wr.fact {g n : Nat} {w wX wr : World} (h : Wr g n w wX wr) {j : Nat} (hj : j < n) : (∃ v, wr.cell? ⟨g, j, none⟩ = some v) ∧ (∀ o, wr.frozen? ⟨g, o, none⟩ = false) ∧ g < wr.heap.size := by
  obtain ⟨cur, h1, h2⟩ := h.row
  refine ⟨⟨cur.getD j undef, ?_⟩, fun o => ?_, lt_of_blk' h1⟩
  · have : j < cur.length := by omega
    simp [World.cell?, h1, List.getD, this]
  · simp [World.frozen?, h1]
theorem Wr.set {g n : Nat} {w wX wr : World} (h : Wr g n w wX wr) (hg : w.heap.size ≤ g) (j : Nat) (v : Value) : Wr g n w wX (wr.setCell ⟨g, j, none⟩ v) := by
  obtain ⟨cur, h1, h2⟩ := h.row
  refine ⟨⟨cur.set j v, ?_, by simp [h2]⟩, fun b hb => ?_, h.bel.setCell hg _⟩
  · have := blk_set (i := j) v h1
    rw [this]; simp
  · exact (Below.heap_setCell _ _ _ _ hb).trans (h.oth b hb)

set_option maxHeartbeats 4000000 in
set_option maxRecDepth 100000 in
theorem lsplits_any (p pd pr ln lc : Nat) (lo : Option Addr) (C : List Int) (a b c : Int) (s : ByteArray) (D : Dk) (M : List Le) (w0 w : World) (h : LwSt w0 w p pd pr D D M) (hd : LInv D) (hx : ∀ i, i < M.length → (M.getD i Le.none).xs.length ≤ 1099511627776) (hm : M.length ≤ 4398046511104) (hC : IntsG w lo ln C) (hl : ln ≤ 17592186044416) :
    Calls Tryz.prog 50 #[.pointer (some ⟨p, 0, none⟩), opVal 12 a b c s (.slice lo ln lc)] w fun e w' => e = .returned (.bool true) ∧ StepPost w0 p pd pr M w' := by
  obtain ⟨F, G, hT, hpw⟩ := h.tell
  obtain ⟨i0, hi0, hz0, hz1, hz2⟩ := info_parts Tryz.infoInt
  have hsz1 : (Tryz.prog.info? 3).map (·.size) = some 1 := by rw [hi0]; simp [hz1]
  obtain ⟨xs, ce, hsp⟩ := spTold_ex D a C
  have hxl := hsp.len
  obtain ⟨m, hm9⟩ : ∃ m, xs.length = m := ⟨_, rfl⟩
  have b0 : (w.alloc (opBlk 12 a b c s (.slice lo ln lc))).heap[w.heap.size]? = some (opBlk 12 a b c s (.slice lo ln lc)) := heap_alloc_new w _
  have k0 : Below w.heap.size w (w.alloc (opBlk 12 a b c s (.slice lo ln lc))) := below_new_al _
  have HF := hid (fun (n cap : Nat) (ao : Option Addr) (W : World) (hW : Below w.heap.size w W) (hI : IntsG W ao n C) => splitT pd n m cap ao a ce C xs D W (hT W hW).1 hd hI hsp hm9)
  have HR2 := hid (fun (n cap : Nat) (ao : Option Addr) (W : World) (hW : Below w.heap.size w W) (hI : IntsG W ao n C) => rsplitT pr n m cap ao a ce C xs D W (hT W hW).2.1 hd hI hsp hm9)
  have HT1 : Hid (∀ W, Below w.heap.size w W → W.cell? ⟨p, 0, none⟩ = some (.pointer (some ⟨pd, 0, none⟩)) ∧ W.cell? ⟨p, 1, none⟩ = some (.pointer (some ⟨pr, 0, none⟩)) ∧ p < W.heap.size) := fun W hW => (hT W hW).2.2
  have HNU := hid (fun (v : Int) (W : World) => lnum_any v W)
  have HKP := hid (fun (ao : Option Addr) (W : World) (hW : Below w.heap.size w W) (hf : Fresh w W ao xs) => keepT p pd pr m ao D M xs w0 w W h hd hx hm hW hf hm9.symm (by omega))
  have HSM := hid (fun (n c1 c2 : Nat) (ao bo : Option Addr) (ys : List Int) (W : World) (hA : IntsG W ao n ys) (hB : IntsG W bo n ys) (hn : n ≤ 17592186044416) => lsame_any ao bo n c1 c2 ys W hA hB hn)
  have HC := hid hC
  have HCL : Hid (C.length = ln) := hC.1
  obtain ⟨q0, q1, q2, q3, q4, q5⟩ := blk6 b0
  have HB0 := hid b0
  have HK0 := hid k0
  have hqA := lt_of_blk' b0
  clear h hT hd hx b0 k0 hC
  go_enter Tryz.func50, Tryz.ntmps50
  go_upto_region 3 with (first | (at_make; refine wpList_make_full _ rfl _ _ 28 rfl (w.heap.size + 1) 3 i0 (.int .i64 0) 1 Tryz.underlying28 hi0 hz0 hz1 _ _ _ _ (ln + 2) rfl rfl (by omega) (by omega) (by rw [hz2]; omega) (by unfold maxLen; omega) (by simp) ?_; intro w1 hown1 hgrow1; have hk0 := grown_new hgrow1 (by simp); obtain ⟨q0, q1, q2, q3, q4, q5⟩ := blk6 hk0; have HB1 : Hid (Below w.heap.size w w1) := HK0.out.grown hgrow1 (by simp) (fun k h => by cases h); have HK1 := hid hk0; simp at hown1; obtain ⟨cur, hcur, hcl⟩ := own_row hown1; have HCU := hid hcur; clear hk0 hown1 hgrow1 hcur))
  have HSRC : Hid (0 < (ints C).length → ∃ ad, lo = some ad ∧ ∀ j v, (ints C)[j]? = some v → w1.cell? (ad.add j) = some v) := fun h0 => by
    rw [ints_length, HCL.out] at h0
    obtain ⟨b1, o1, rfl, _, _⟩ := HC.out.2 0 h0
    refine ⟨_, rfl, fun j v hv => ?_⟩
    have hj : j < ln := by
      have := (List.getElem?_eq_some_iff.1 hv).1
      rw [ints_length, HCL.out] at this; exact this
    obtain ⟨b2, o2, e2, z2, r2⟩ := HC.out.2 j hj
    cases e2
    have hj2 : j < C.length := by rw [HCL.out]; exact hj
    have : v = .int .i64 (C.getD j 0) := by
      have h9 : (ints C)[j]? = some (.int .i64 (C.getD j 0)) := by simp [ints, List.getD, hj2]
      rw [h9] at hv; exact (Option.some.inj hv).symm
    rw [this]
    have h8 := (HB1.out.cell (p := ⟨b1, o1 + j, none⟩) z2).trans r2
    by_cases e0 : j = 0
    · subst e0; simpa [Addr.add] using h8
    · simpa [Addr.add, e0] using h8
  have hil : (ints C).length = ln := by rw [ints_length]; exact HCL.out
  obtain ⟨zx, zy, hzz⟩ := splice_two hcl hil
  have HZZ := hid hzz
  have HIL := hid hil
  have hone : ∀ v ∈ ints C, v.oneCell' = true := fun v hv => by
    obtain ⟨z, _, rfl⟩ := List.mem_map.1 hv
    rfl
  have HONE := hid hone
  have hs5 : (0 : Int) ≤ (ln : Int) := by omega
  have hs6 : (ln : Int) < (ln : Int) + 2 := by omega
  have hs7 : (0 : Int) ≤ (ln : Int) + 1 := by omega
  have hs8 : (ln : Int) + 1 < (ln : Int) + 2 := by omega
  have hwr : IntKind.i64.wrap ((ln : Int) + 1) = (ln : Int) + 1 := by rw [IntKind.wrap_i64]; omega
  clear hone hzz hil
  go_upto_region 6 with ((with_reducible (show Go.wpList _ _ _ (Oper.mk _ (Op.call _) _ _ _ _ :: _) _ _)); (refine wpList_copy_splice rfl (.tmp 21) (.tmp 23) 28 28 rfl 3 Tryz.underlying28 hsz1 _ _ _ _ _ _ rfl rfl (w.heap.size + 1) 0 cur 3 HCU.out (ints C) (by rw [HIL.out]; exact (Nat.min_eq_left (by omega)).symm) (fun h0 => ⟨rfl, HSRC.out h0⟩) (by rw [HIL.out, hcl]; omega) HONE.out (w.heap.size + 1) w1 (Below.refl _ _) (Nat.le_refl _) ?_; intro w2 hI2 hb2; rw [HZZ.out] at hI2; have HI2 : Hid (InR w2 (w.heap.size + 1) C zx zy) := hI2.out; have HB2 := hid hb2; obtain ⟨x0, x1, xz⟩ := HI2.out.c0 HCL.out; have hxz := lt_of_blk' HI2.out; clear hI2 hb2))
  have HI3 : Hid (InR ((w2.setCell ⟨w.heap.size + 1, ln, none⟩ (.int .i64 7)).setCell ⟨w.heap.size + 1, ln + 1, none⟩ (.int .i64 7)) (w.heap.size + 1) C (.int .i64 7) (.int .i64 7)) := (HI2.out.set0 HCL.out _).set1 HCL.out _
  have HB3 : Hid (Below (w.heap.size + 1) w1 ((w2.setCell ⟨w.heap.size + 1, ln, none⟩ (.int .i64 7)).setCell ⟨w.heap.size + 1, ln + 1, none⟩ (.int .i64 7))) := (HB2.out.setCell (by simp) _).setCell (by simp) _
  generalize hwR : (w2.setCell ⟨w.heap.size + 1, ln, none⟩ (.int .i64 7)).setCell ⟨w.heap.size + 1, ln + 1, none⟩ (.int .i64 7) = wR at *
  have HKR : Hid (wR.heap[w.heap.size]? = some (opBlk 12 a b c s (.slice lo ln lc))) := (HB3.out.block _ (by omega)).trans HK1.out
  have HBR : Hid (Below w.heap.size w wR.drew) := below_drewn (HB1.out.trans (HB3.out.mono (by omega)))
  have HIR : Hid (InR wR.drew (w.heap.size + 1) C (.int .i64 7) (.int .i64 7)) := HI3.out
  clear hwR x0 x1 xz hxz HI2 HB2 HI3 HB3 HCU HSRC HZZ HONE hcl HK1 q0 q1 q2 q3 q4 q5 HB0 HK0 hqA
  obtain ⟨c0, _, hpz⟩ := HT1.out _ HBR.out
  obtain ⟨q0, q1, q2, q3, q4, q5⟩ := blk6 HKR.out
  have hqz := lt_of_blk' HKR.out
  have HFS := hid (HF.out ln (ln + 2) (some ⟨w.heap.size + 1, 0, none⟩) wR.drew HBR.out (HIR.out.gen HCL.out))
  have hS0 : wR.drew.cell? ⟨p, 0, none⟩ = some (.pointer (some ⟨pd, 0, none⟩)) ∧ wR.drew.cell? ⟨w.heap.size, 1, none⟩ = some (.int .i64 a) := ⟨c0, q1⟩
  have c0' : wR.cell? ⟨p, 0, none⟩ = some (.pointer (some ⟨pd, 0, none⟩)) := c0
  have hpz' : p < wR.heap.size := hpz
  have hsl1 : (ln : Int) ≤ (ln : Int) + 2 := by omega
  clear c0 hpz q0 q2 q3 q4 HF
  go_region_held3 (fun w' => w'.cell? ⟨p, 0, none⟩ = some (.pointer (some ⟨pd, 0, none⟩)) ∧ w'.cell? ⟨w.heap.size, 1, none⟩ = some (.int .i64 a)) (first | with_reducible exact hS0 | with_reducible exact hS3 | go_keep) (first | (go_at_call 78; refine HFS.out.mono ?_; rintro e w3 ⟨bo1, rfl, HF1, hbb1⟩; have k3 := HBR.out.trans (hbb1.mono HBR.out.size); have b3 := (hbb1.block _ hqz).trans HKR.out; have hS3 : w3.cell? ⟨p, 0, none⟩ = some (.pointer (some ⟨pd, 0, none⟩)) ∧ w3.cell? ⟨w.heap.size, 1, none⟩ = some (.int .i64 a) := ⟨(HT1.out w3 k3).1, (blk6 b3).2.1⟩))
  have HK3 := hid (below_drewn k3)
  have HX3 : Hid (w3.drew.heap[w.heap.size]? = some (opBlk 12 a b c s (.slice lo ln lc))) := b3
  have HF3 : Hid (Fresh wR w3.drew bo1 xs) := HF1.out.later ⟨rfl, rfl, rfl, Nat.le_refl _, fun _ _ => rfl⟩
  have HI3 : Hid (InR w3.drew (w.heap.size + 1) C (.int .i64 7) (.int .i64 7)) := HIR.out.later (below_drewn hbb1)
  obtain ⟨d0, d1, hpz3⟩ := HT1.out w3 k3
  obtain ⟨y0, y1, y2, y3, y4, y5⟩ := blk6 b3
  have hqz3 := lt_of_blk' b3
  have HF2 := hid (HR2.out ln lc lo w3.drew HK3.out (HC.out.below HK3.out))
  have hS0' : w3.drew.cell? ⟨p, 1, none⟩ = some (.pointer (some ⟨pr, 0, none⟩)) ∧ w3.drew.cell? ⟨w.heap.size, 1, none⟩ = some (.int .i64 a) ∧ w3.drew.cell? ⟨w.heap.size, 5, none⟩ = some (.slice lo ln lc) := ⟨d1, y1, y5⟩
  have hwRz : w.heap.size + 1 < wR.heap.size := lt_of_blk' HIR.out
  clear hS0 hS3 k3 b3 hbb1 HFS HKR y0 y1 y2 y3 y4 y5 d0 d1 q1 q5 c0' hpz' HR2 HBR hqz HF1 HIR
  go_wp2_with fail
  go_region_held3 (fun w' => w'.cell? ⟨p, 1, none⟩ = some (.pointer (some ⟨pr, 0, none⟩)) ∧ w'.cell? ⟨w.heap.size, 1, none⟩ = some (.int .i64 a) ∧ w'.cell? ⟨w.heap.size, 5, none⟩ = some (.slice lo ln lc)) (first | with_reducible exact hS0' | with_reducible exact hS4 | go_keep) (first | (go_at_call 79; refine HF2.out.mono ?_; rintro e w4 ⟨bo2, bc2, rfl, HF4, hbb2⟩; have k4 := HK3.out.trans (hbb2.mono HK3.out.size); have b4 := (hbb2.block _ hqz3).trans HX3.out; have hS4 : w4.cell? ⟨p, 1, none⟩ = some (.pointer (some ⟨pr, 0, none⟩)) ∧ w4.cell? ⟨w.heap.size, 1, none⟩ = some (.int .i64 a) ∧ w4.cell? ⟨w.heap.size, 5, none⟩ = some (.slice lo ln lc) := ⟨(HT1.out w4 k4).2.1, (blk6 b4).2.1, (blk6 b4).2.2.2.2.2⟩))
  have HL4 := hid (HF3.out.later hbb2)
  have HI4 := hid (HI3.out.later hbb2)
  have HK4 := hid k4
  have HX4 := hid b4
  have HS2 := hid (HSM.out m m bc2 bo1 bo2 xs w4 (by rw [← hm9]; exact HL4.out.gen) HF4.out (by omega))
  clear hS0' hS4 k4 b4 hbb2 HF2 HX3 HK3 HF3 HI3 HF4 hqz3 hpz3
  go_wp2_with fail
  refine HS2.out.mono ?_
  rintro e w5 ⟨rfl, hb5⟩
  have HL5 := hid (HL4.out.later (below_drewn hb5))
  have HI5 : Hid (InR w5.drew (w.heap.size + 1) C (.int .i64 7) (.int .i64 7)) := HI4.out.later (below_drewn hb5)
  have HK5 : Hid (Below w.heap.size w w5.drew) := below_drewn (HK4.out.trans (hb5.mono HK4.out.size))
  have HX5 : Hid (w5.drew.heap[w.heap.size]? = some (opBlk 12 a b c s (.slice lo ln lc))) := (hb5.block _ (lt_of_blk' HX4.out)).trans HX4.out
  have hS5 : w5.drew.cell? ⟨w.heap.size, 5, none⟩ = some (.slice lo ln lc) := (blk6 HX5.out).2.2.2.2.2
  have hqz5 := lt_of_blk' HX5.out
  have HS3 := hid (HSM.out ln (ln + 2) lc (some ⟨w.heap.size + 1, 0, none⟩) lo C w5.drew (HI5.out.gen HCL.out) (HC.out.below HK5.out) hl)
  clear hb5 HL4 HI4 HK4 HX4 HS2 HSM
  go_wp2_with fail
  go_region_held3 (fun w' => w'.cell? ⟨w.heap.size, 5, none⟩ = some (.slice lo ln lc)) (first | with_reducible exact hS5 | with_reducible exact hS6 | go_keep) (first | (go_at_call 21; refine HS3.out.mono ?_; rintro e w6 ⟨rfl, hbb6⟩; have hS6 : w6.cell? ⟨w.heap.size, 5, none⟩ = some (.slice lo ln lc) := (hbb6.cell (p := ⟨w.heap.size, 5, none⟩) hqz5).trans hS5))
  have HL6 := hid (HL5.out.later (below_drewn hbb6))
  have HI6 : Hid (InR w6.drew (w.heap.size + 1) C (.int .i64 7) (.int .i64 7)) := HI5.out.later (below_drewn hbb6)
  have HK6 : Hid (Below w.heap.size w w6.drew) := below_drewn (HK5.out.trans (hbb6.mono HK5.out.size))
  have HI6' : Hid (InR w6 (w.heap.size + 1) C (.int .i64 7) (.int .i64 7)) := HI6.out
  obtain ⟨x0, x1, xz⟩ := HI6'.out.c0 HCL.out
  have hxz := lt_of_blk' HI6'.out
  have HWR : Hid (Wr (w.heap.size + 1) (ln + 2) w w6 w6) := ⟨⟨_, HI6.out, by simp [ints_length, HCL.out]⟩, fun _ _ => rfl, HK5.out.trans (hbb6.mono HK5.out.size)⟩
  clear hbb6 hS5 hS6 hqz5 HL5 HI5 HK5 HX5 HS3
  go_wp2_with fail
  go_loopw [14] (fun si wr => ∃ j : Nat, j ≤ ln + 2 ∧ si = .int .i64 (j : Int) ∧ Hid (Wr (w.heap.size + 1) (ln + 2) w w6 wr)) (fun si _ => ln + 2 - (intOf si).toNat)
  case atStart => exact ⟨0, Nat.zero_le _, rfl, HWR⟩
  case round =>
    obtain ⟨j, hj, rfl, Hw⟩ := hrel
    clear x0 x1 xz hxz
    by_cases hlt : j < ln + 2
    · obtain ⟨⟨v, x0⟩, xz, hxz⟩ := Hw.out.fact hlt
      have HW2 := hid (Hw.out.set (Nat.le_succ _) j (.int .i64 7))
      have hs1 : (0 : Int) ≤ (j : Int) := by omega
      have hs2 : (j : Int) < (ln : Int) + 2 := by omega
      go_wp2_with fail
      go_roundw
      case rel => exact ⟨j + 1, by omega, by go_num, HW2⟩
      case measure => simp [intOf]; omega
    · have HFR : Hid (Fresh w wr bo1 xs) := (HL6.out.except (wY := wr) (fun b hb => Hw.out.oth b (by omega))).base (by omega)
      have HK7 := hid (HKP.out bo1 wr Hw.out.bel HFR.out)
      clear HFR HKP HL6 HWR HI6 HI6' HK6
      have hs2 : ¬ ((j : Int) < (ln : Int) + 2) := by omega
      go_wp2_with fail
      refine HK7.out.mono ?_
      rintro e w7 ⟨rfl, hsp7, _, _⟩
      have HFIN := hid hsp7
      have hbc : (ce == ce) = true := by simp
      clear hsp7 HK7 Hw
      go_wp2_with (go_at_call 11; refine (HNU.out _ _).mono ?_; rintro e w' ⟨rfl, hw⟩; obtain rfl := hw.symm)
      go_ret
      exact ⟨rfl, HFIN.out⟩

set_option maxHeartbeats 2000000 in
set_option maxRecDepth 100000 in
theorem lsplit_any (p pd pr ln lc : Nat) (lo : Option Addr) (C : List Int) (a b c : Int) (s : ByteArray) (D : Dk) (M : List Le) (w0 w : World) (h : LwSt w0 w p pd pr D D M) (hd : LInv D) (hx : ∀ i, i < M.length → (M.getD i Le.none).xs.length ≤ 1099511627776) (hm : M.length ≤ 4398046511104) (hC : IntsG w lo ln C) (hl : ln ≤ 17592186044416) :
    Calls Tryz.prog 18 #[.pointer (some ⟨p, 0, none⟩), opVal 12 a b c s (.slice lo ln lc)] w fun e w' => e = .returned (.bool true) ∧ StepPost w0 p pd pr M w' := by
  have k0 : Below w.heap.size w (w.alloc (opBlk 12 a b c s (.slice lo ln lc))) := below_new_al _
  have b0 : (w.alloc (opBlk 12 a b c s (.slice lo ln lc))).heap[w.heap.size]? = some (opBlk 12 a b c s (.slice lo ln lc)) := heap_alloc_new w _
  have HS := hid (lsplits_any p pd pr ln lc lo C a b c s D M w0 _ (h.below k0) hd hx hm (hC.below k0) hl)
  obtain ⟨q0, q1, q2, q3, q4, q5⟩ := blk6 b0
  have hqz := lt_of_blk' b0
  clear h hd hx hC b0 k0
  go_enter Tryz.func18, Tryz.ntmps18
  go_wp2_with (go_at_call 50; refine HS.out.mono ?_; rintro e w1 ⟨rfl, hsp⟩; have HFIN := hid hsp; clear hsp)
  go_ret
  exact ⟨rfl, HFIN.out⟩

end Go.Proofs.YtklicjbpjigfdabGreat

/- DERIVED. One step on both desks: kinds up to 12, and what the caller writes. -/
namespace Go.Proofs.YtklicjbpjigfdabGreat
open Go.RowKit
attribute [local go_sem ↓] Go.wp_at_zero Go.wp_at_succ
set_option linter.unusedVariables false

set_option maxHeartbeats 1000000 in
theorem step10_any (p pd pr : Nat) (a b c : Int) (s : ByteArray) (lo : Option Addr) (ln lc : Nat) (C : List Int) (D : Dk) (M : List Le) (w0 w : World) (hC : IntsG w lo ln C) (hl : ln ≤ 17592186044416) (h : LwSt w0 w p pd pr D D M) (hd : LInv D) (hx : ∀ i, i < M.length → (M.getD i Le.none).xs.length ≤ 1099511627776) (hm : M.length ≤ 4398046511104) (hs : s.size ≤ 140737488355328) (ha : -9223372036854775808 ≤ a ∧ a ≤ 9223372036854775807) (hb : -9223372036854775808 ≤ b ∧ b ≤ 9223372036854775807) :
    Calls Tryz.prog 7 #[.pointer (some ⟨p, 0, none⟩), opVal 10 a b c s (.slice lo ln lc)] w fun e w' => e = .returned (.bool true) ∧ StepPost w0 p pd pr M w' := by
  have hA := h.below (below_new_al (opBlk 10 a b c s (.slice lo ln lc)))
  have hCA := hC.below (below_new_al (opBlk 10 a b c s (.slice lo ln lc)))
  have HC := hid (lrank_any p pd pr a b c s (.slice lo ln lc) D M w0 _ hA hd hx)
  clear h hd hx hm hs ha hb hA hC hCA hl
  go_enter Tryz.func7, Tryz.ntmps7
  go_wp2_with fail
  refine HC.out.mono ?_
  rintro e w1 ⟨rfl, hsp⟩
  have HSP := hid hsp
  clear hsp HC
  go_wp2_with fail
  go_ret
  exact ⟨rfl, HSP.out⟩

set_option maxHeartbeats 1000000 in
theorem step11_any (p pd pr : Nat) (a b c : Int) (s : ByteArray) (lo : Option Addr) (ln lc : Nat) (C : List Int) (D : Dk) (M : List Le) (w0 w : World) (hC : IntsG w lo ln C) (hl : ln ≤ 17592186044416) (h : LwSt w0 w p pd pr D D M) (hd : LInv D) (hx : ∀ i, i < M.length → (M.getD i Le.none).xs.length ≤ 1099511627776) (hm : M.length ≤ 4398046511104) (hs : s.size ≤ 140737488355328) (ha : -9223372036854775808 ≤ a ∧ a ≤ 9223372036854775807) (hb : -9223372036854775808 ≤ b ∧ b ≤ 9223372036854775807) :
    Calls Tryz.prog 7 #[.pointer (some ⟨p, 0, none⟩), opVal 11 a b c s (.slice lo ln lc)] w fun e w' => e = .returned (.bool true) ∧ StepPost w0 p pd pr M w' := by
  have hA := h.below (below_new_al (opBlk 11 a b c s (.slice lo ln lc)))
  have hCA := hC.below (below_new_al (opBlk 11 a b c s (.slice lo ln lc)))
  have HC := hid (lquant_any p pd pr a b c s (.slice lo ln lc) D M w0 _ hA hd hx)
  clear h hd hx hm hs ha hb hA hC hCA hl
  go_enter Tryz.func7, Tryz.ntmps7
  go_wp2_with fail
  refine HC.out.mono ?_
  rintro e w1 ⟨rfl, hsp⟩
  have HSP := hid hsp
  clear hsp HC
  go_wp2_with fail
  go_ret
  exact ⟨rfl, HSP.out⟩

set_option maxHeartbeats 1000000 in
theorem step12_any (p pd pr : Nat) (a b c : Int) (s : ByteArray) (lo : Option Addr) (ln lc : Nat) (C : List Int) (D : Dk) (M : List Le) (w0 w : World) (hC : IntsG w lo ln C) (hl : ln ≤ 17592186044416) (h : LwSt w0 w p pd pr D D M) (hd : LInv D) (hx : ∀ i, i < M.length → (M.getD i Le.none).xs.length ≤ 1099511627776) (hm : M.length ≤ 4398046511104) (hs : s.size ≤ 140737488355328) (ha : -9223372036854775808 ≤ a ∧ a ≤ 9223372036854775807) (hb : -9223372036854775808 ≤ b ∧ b ≤ 9223372036854775807) :
    Calls Tryz.prog 7 #[.pointer (some ⟨p, 0, none⟩), opVal 12 a b c s (.slice lo ln lc)] w fun e w' => e = .returned (.bool true) ∧ StepPost w0 p pd pr M w' := by
  have hA := h.below (below_new_al (opBlk 12 a b c s (.slice lo ln lc)))
  have hCA := hC.below (below_new_al (opBlk 12 a b c s (.slice lo ln lc)))
  have HC := hid (lsplit_any p pd pr ln lc lo C a b c s D M w0 _ hA hd hx hm hCA hl)
  clear h hd hx hm hs ha hb hA hC hCA hl
  go_enter Tryz.func7, Tryz.ntmps7
  go_wp2_with fail
  refine HC.out.mono ?_
  rintro e w1 ⟨rfl, hsp⟩
  have HSP := hid hsp
  clear hsp HC
  go_wp2_with fail
  go_ret
  exact ⟨rfl, HSP.out⟩

theorem stepB_any (p pd pr : Nat) (kd : Int) (a b c : Int) (s : ByteArray) (lo : Option Addr) (ln lc : Nat) (C : List Int) (D : Dk) (M : List Le) (w0 w : World) (hC : IntsG w lo ln C) (hl : ln ≤ 17592186044416) (h : LwSt w0 w p pd pr D D M) (hd : LInv D) (hx : ∀ i, i < M.length → (M.getD i Le.none).xs.length ≤ 1099511627776) (hm : M.length ≤ 4398046511104) (hs : s.size ≤ 140737488355328) (ha : -9223372036854775808 ≤ a ∧ a ≤ 9223372036854775807) (hb : -9223372036854775808 ≤ b ∧ b ≤ 9223372036854775807) (hk : kd ≤ 12 ∨ kd = 17) :
    Calls Tryz.prog 7 #[.pointer (some ⟨p, 0, none⟩), opVal kd a b c s (.slice lo ln lc)] w fun e w' => e = .returned (.bool true) ∧ StepPost w0 p pd pr M w' := by
  by_cases h1 : kd ≤ 9 ∨ kd = 17
  · exact stepA_any p pd pr kd a b c s (.slice lo ln lc) D M w0 w ⟨_, _, _, rfl⟩ h hd hx hm hs ha hb h1
  · have h2 : kd = 10 ∨ kd = 11 ∨ kd = 12 := by omega
    rcases h2 with rfl | rfl | rfl
    · exact step10_any p pd pr a b c s lo ln lc C D M w0 w hC hl h hd hx hm hs ha hb
    · exact step11_any p pd pr a b c s lo ln lc C D M w0 w hC hl h hd hx hm hs ha hb
    · exact step12_any p pd pr a b c s lo ln lc C D M w0 w hC hl h hd hx hm hs ha hb

end Go.Proofs.YtklicjbpjigfdabGreat
