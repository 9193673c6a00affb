/- DERIVED. A law on copy for elements of more than one cell: a row of the call's own is filled whole from another row. -/
import Derived.WalkKit
import Derived.Laws.CopyOwn
import Derived.Test.YtklicjbpjigfdabGreatQ1
namespace Go.Proofs.YtklicjbpjigfdabGreat
open Go.RowKit

section
variable {P : Program} (w : World)

theorem run_copy_sized (dT sT ty elem : TypeId) (i : TypeInfo) (hu : P.underlying dT = some (.slice elem)) (hi : P.info? elem = some i)
    (g n dCap : Nat) (a : Addr) (sCap : Nat) (cur : Array Value) (t : TypeId) (cs : List Value) (hg : w.heap[g]? = some (.cells cur t (0, 0))) (hn : cs.length = n * i.size)
    (hsrc : ∀ j v, cs[j]? = some v → w.cell? (a.add j) = some v) (hfit : cs.length ≤ cur.size) (h1 : ∀ v ∈ cs, v.oneCell' = true) :
    (Builtin.copy_ #[dT, sT] ty #[.slice (some ⟨g, 0, none⟩) n dCap, .slice (some a) n sCap]).run P w =
      .ok (goInt n) (w.setRow g (cs ++ cur.toList.drop cs.length).toArray) := by
  have hf := run_firstCells_some (P := P) w i.size n a n sCap cs hn hsrc
  have hst := run_storeCells_at P g 0 t cs 0 cur w hg (by simpa using hfit) h1
  simp only [Nat.zero_add, List.take_zero, List.nil_append] at hst
  simp [Builtin.copy_, run_underlying hu, Builtin.lenOf, sizeOf, typeInfo, hi, hf, hst]

theorem run_copy_all (dT sT ty elem : TypeId) (i : TypeInfo) (size : Nat) (hu : P.underlying dT = some (.slice elem)) (hi : P.info? elem = some i) (hsz : i.size = size)
    (B g n dCap g2 sCap : Nat) (zs cs : List Value)
    (hown : w.ownsRow B elem size (.slice (some ⟨g, 0, none⟩) n dCap) n zs) (hsrc : ∀ j v, cs[j]? = some v → w.cell? ⟨g2, j, none⟩ = some v) (hn : cs.length = n * size) (h1 : ∀ v ∈ cs, v.oneCell' = true) :
    ∃ w', (Builtin.copy_ #[dT, sT] ty #[.slice (some ⟨g, 0, none⟩) n dCap, .slice (some ⟨g2, 0, none⟩) n sCap]).run P w = .ok (goInt n) w' ∧
      w'.ownsRow B elem size (.slice (some ⟨g, 0, none⟩) n dCap) n cs ∧ w.grownBy w' (some g) := by
  subst hsz
  rcases hown.2 with ⟨hv, _⟩ | ⟨g', cap, cur, hv, hb, hg, hnc, hcm, hcs, ht⟩
  · cases hv
  · cases hv
    have hle : cs.length ≤ cur.size := by rw [hn, hcs]; exact Nat.mul_le_mul_right _ hnc
    have hrun := run_copy_sized (P := P) w dT sT ty elem i hu hi g n dCap ⟨g2, 0, none⟩ sCap cur elem cs hg hn (fun j v hj => by rw [Addr.add_lit, Nat.zero_add]; exact hsrc j v hj) hle h1
    refine ⟨_, hrun, ⟨hn, .inr ⟨g, dCap, _, rfl, hb, setRow_heap w g cur _ elem _ hg, hnc, hcm, ?_, ?_⟩⟩, ⟨rfl, rfl, rfl, by simp, fun k _ hk => setRow_other w g k _ (fun e => hk (by simp [e]))⟩⟩
    · simp only [List.size_toArray, List.length_append, List.length_drop, Array.length_toList]; omega
    · rw [← hn]; simp
end

end Go.Proofs.YtklicjbpjigfdabGreat

/- DERIVED. The walks that make sketches: Begin, copied, widen, Size. -/
namespace Go.Proofs.YtklicjbpjigfdabGreat
open Go.RowKit
variable {F : Nat → Prop}

theorem fp_one : ∀ h, h < [Lvl.none].length → ∀ b, ([Value.slice none 0 0].getD h undef).ownBlock = some b → F b := by
  intro h hh b hb
  have : h = 0 := by simp at hh; omega
  subst this
  simp [Value.ownBlock] at hb

set_option maxHeartbeats 400000 in
set_option maxRecDepth 100000 in
theorem begin_any (k : Nat) (w : World) :
    Calls Tryz.prog 26 #[.int .i64 (k : Int)] w fun e w' => ∃ g cap, e = .returned (skVal k g 1 cap 0 0) ∧ w.heap.size ≤ g ∧ LvAt F w' g cap [.slice none 0 0] [Lvl.none] ∧ Below w.heap.size w w' := by
  obtain ⟨i0, hi0, hz0, hz1, hz2⟩ := info_parts Tryz.infoLevel
  go_enter Tryz.func26, Tryz.ntmps26
  go_wp2_with (at_make; refine wpList_make_full _ rfl _ _ 62 rfl w.heap.size 140 i0 (.agg #[.slice none 0 0, .int .i64 0]) 2 Tryz.underlying62 hi0 hz0 hz1 _ _ _ _ 1 rfl rfl (by rfl) (by rfl) ?b2 ?b3 ?b4 ?_)
  case b2 => first | omega | (rw [hz2]; omega)
  case b3 => unfold maxLen; omega
  case b4 => simp <;> omega
  intro w1 hown hgrow
  have hbl := grown_new hgrow (by simp)
  obtain ⟨c0, c1, c2, c3, fz⟩ := blk4 hbl
  have HO := hid hown
  have HG := hid hgrow
  clear hown hgrow
  go_wp2_with fail
  refine bodyPost_ret (v := skVal k (w.heap.size + 1) 1 1 0 0) (by simp [results, Tryz.results26, go_sem, c0, c1, c2, c3]) rfl ⟨w.heap.size + 1, 1, rfl, by omega, ?_, ?_⟩
  · have hO := HO.out
    rw [show (madeCells #[Value.slice none 0 0, Value.int IntKind.i64 0] 2).toList = lvCells [.slice none 0 0] [Lvl.none] from by simp [madeCells, lvCells, Lvl.none]; rfl] at hO
    refine LvAt.block (w := w1) ⟨ownsRow_base hO (Nat.zero_le _), rfl, ?_, fp_one⟩ (fun b hb => ?_)
    · intro h hh
      have : h = 0 := by simp at hh; omega
      subst this
      exact Ints.nil _
    · refine set4_other _ _ _ _ (fun e => ?_)
      subst e
      rcases hb with hb | ⟨c, hc⟩
      · omega
      · rw [hbl] at hc; cases hc
  · exact below_set4 (((Below.refl _ _).alloc (Nat.le_refl _) _).grown HG.out (by simp) (fun k h => by cases h)) (Nat.le_refl _) _ _ _ _


set_option maxHeartbeats 400000 in
set_option maxRecDepth 100000 in
theorem copied_any (k g cap : Nat) (lo hi : Int) (vs : List Value) (L : List Lvl) (w : World) (hL : LvAt F w g cap vs L) (hlen : L.length ≤ 64) :
    Calls Tryz.prog 82 #[skVal k g L.length cap lo hi] w fun e w' => ∃ g' cap', e = .returned (skVal k g' L.length cap' lo hi) ∧ w.heap.size ≤ g' ∧ LvAt F w' g' cap' vs L ∧ Below w.heap.size w w' := by
  obtain ⟨i0, hi0, hz0, hz1, hz2⟩ := info_parts Tryz.infoLevel
  obtain ⟨n, hn⟩ : ∃ n, n = L.length := ⟨_, rfl⟩
  have HN : Hid (n = L.length) := hn
  rw [← hn] at hlen ⊢
  clear hn
  go_enter Tryz.func82, Tryz.ntmps82
  go_wp2_with (at_make; refine wpList_make_full _ rfl _ _ 62 rfl w.heap.size 140 i0 (.agg #[.slice none 0 0, .int .i64 0]) 2 Tryz.underlying62 hi0 hz0 hz1 _ _ _ _ n rfl rfl (by rfl) (by rfl) ?b2 ?b3 ?b4 ?_)
  case b2 => first | omega | (rw [hz2]; omega)
  case b3 => unfold maxLen; omega
  case b4 => simp <;> omega
  intro w1 hown hgrow
  have hbl1 := grown_new2 hgrow (by simp)
  have hbl2 := grown_new2' hgrow (by simp)
  obtain ⟨c0, c1, c2, c3, fz⟩ := blk4 hbl1
  obtain ⟨d0, d1, d2, d3, dz⟩ := blk4 hbl2
  have hb1 : Below w.heap.size w w1 := (((Below.refl _ _).alloc (Nat.le_refl _) _).alloc (by simp) _).grown hgrow (by simp; omega) (fun k h => by cases h)
  have hL1 := hL.below hb1
  have hgl := hL.lt
  have hL1r := hL1.row
  rw [← HN.out] at hL1r
  obtain ⟨w2, hrun, hown2, hgrow2⟩ := run_copy_all (P := Tryz.prog) w1 62 62 3 140 i0 2 Tryz.underlying62 hi0 hz1 w.heap.size (w.heap.size + 1 + 1) n n g cap _ (lvCells vs L) hown (fun j v hj => ownsRow_cell hL1r hj) (by rw [lvCells_length _ _ hL.len, HN.out]) hL.one
  have e1 : w2.heap[w.heap.size]? = w1.heap[w.heap.size]? := hgrow2.block _ (by have := (Array.getElem?_eq_some_iff.1 hbl1).1; omega) (by simp; omega)
  have e2 : w2.heap[w.heap.size + 1]? = w1.heap[w.heap.size + 1]? := hgrow2.block _ (by have := (Array.getElem?_eq_some_iff.1 hbl2).1; omega) (by simp)
  rw [hbl1] at e1
  rw [hbl2] at e2
  obtain ⟨c0', c1', c2', c3', fz'⟩ := blk4 e1
  obtain ⟨d0', d1', d2', d3', dz'⟩ := blk4 e2
  have HB := hid (hb1.grown hgrow2 hb1.size (fun k h => by cases h; omega))
  have HL2 : Hid (LvAt F w2 (w.heap.size + 1 + 1) n vs L) := hid (LvAt.mk (by rw [← HN.out]; exact ownsRow_base hown2 (Nat.zero_le _)) hL.len (fun j hj => (hL1.its j hj).block (fun b hb => hgrow2.block b (ownsRow_lt (hL1.its j hj) hb) (fun e => by cases e; have := ownsRow_lt (hL.its j hj) hb; omega))) hL.fp)
  have HE2 := hid e2
  clear hown hgrow hbl1 hbl2 e1 e2 hb1 hL1 hL1r hown2 hgrow2
  go_wp2_with fail
  refine bodyPost_ret (v := skVal k (w.heap.size + 1 + 1) n n lo hi) (by simp [results, Tryz.results82, go_sem, d0', d1', d2', d3']) rfl ⟨w.heap.size + 1 + 1, n, rfl, by omega, ?_, below_set4 HB.out (by omega) _ _ _ _⟩
  refine HL2.out.block (fun b hb => set4_other _ _ _ _ (fun e => ?_))
  subst e
  rcases hb with hb | ⟨c, hc⟩
  · omega
  · rw [HE2.out] at hc; cases hc

/-- What comes in counts for the least and the greatest. -/
def widenLo (n : Nat) (lo x : Int) : Int := if n = 0 ∨ x < lo then x else lo
def widenHi (n : Nat) (hi x : Int) : Int := if n = 0 ∨ hi < x then x else hi

set_option maxHeartbeats 400000 in
set_option maxRecDepth 100000 in
theorem widen_any (B b k g cap : Nat) (lo hi x y : Int) (vs : List Value) (L : List Lvl) (w : World) (hb : w.heap[b]? = some (.cells #[.int .i64 (k : Int), .slice (some ⟨g, 0, none⟩) L.length cap, .int .i64 lo, .int .i64 hi] 64 (0, 0))) (hB : B ≤ b) (hL : LvAt F w g cap vs L) (hlen : L.length ≤ 30) (hbd : wsum L ≤ 1099511627776) :
    Calls Tryz.prog 83 #[.pointer (some ⟨b, 0, none⟩), .int .i64 x, .int .i64 y] w fun e w' => e = .returned (.tuple #[]) ∧ w'.heap[b]? = some (.cells #[.int .i64 (k : Int), .slice (some ⟨g, 0, none⟩) L.length cap, .int .i64 (widenLo (wsum L) lo x), .int .i64 (widenHi (wsum L) hi y)] 64 (0, 0)) ∧ LvAt F w' g cap vs L ∧ Below B w w' := by
  have hcnt := count_any k g cap lo hi vs L w hL hlen hbd
  obtain ⟨n, hn⟩ : ∃ n, n = L.length := ⟨_, rfl⟩
  have HN : Hid (n = L.length) := hn
  rw [← hn] at hlen hb hcnt ⊢
  clear hn
  obtain ⟨c0, c1, c2, c3, fz⟩ := blk4 hb
  have HC := hid hcnt
  have hbz : b < w.heap.size := (Array.getElem?_eq_some_iff.1 hb).1
  clear hcnt
  go_enter Tryz.func83, Tryz.ntmps83
  go_wp2_with fail
  refine HC.out.mono ?_
  rintro e w1 ⟨rfl, hb1⟩
  have hb1' : w1.heap[b]? = some (.cells #[.int .i64 (k : Int), .slice (some ⟨g, 0, none⟩) n cap, .int .i64 lo, .int .i64 hi] 64 (0, 0)) := (hb1.block b hbz).trans hb
  have hL1 := hL.below hb1
  obtain ⟨d0, d1, d2, d3, dz⟩ := blk4 hb1'
  clear HC c0 c1 c2 c3 fz hb
  generalize hws : wsum L = ws at *
  have HW := hid hws
  have HB := hid hb1'
  have HL1 := hid hL1
  have hb2 := hb1.mono (Nat.le_trans hB (Nat.le_of_lt hbz))
  have HB2 := hid hb2
  clear hws hb1' hL1 hb1 hL hb2
  have hoth : ∀ (w2 : World), (∀ c, c ≠ b → w2.heap[c]? = w1.heap[c]?) → LvAt F w2 g cap vs L := by
    intro w2 h
    refine HL1.out.block (fun c hc => h c (fun e => ?_))
    subst e
    rcases hc with rfl | ⟨c', hc'⟩
    · have := HL1.out.row
      rcases this.2 with ⟨hv, _⟩ | ⟨g', cap', cur', hv, _, hh, _⟩
      · cases hv
      · cases hv; rw [HB.out] at hh; cases hh
    · rw [HB.out] at hc'; cases hc'
  have HO := hid hoth
  clear hoth
  by_cases h0 : ws = 0
  · subst h0
    go_wp2_with fail
    go_end0
    refine ⟨rfl, ?_, HO.out _ (fun c hc => by rw [Below.heap_setCell _ _ _ _ hc, Below.heap_setCell _ _ _ _ hc]), (HB2.out.setCell hB _).setCell hB _⟩
    have := blk_set (i := 3) (.int .i64 y) (blk_set (i := 2) (.int .i64 x) HB.out)
    rw [HW.out]; simpa [widenLo, widenHi] using this
  · have h0' : ((ws : Int) == 0) = false := by simpa using h0
    by_cases h1 : x < lo
    · by_cases h2 : hi < y
      · go_wp2_with fail
        go_end0
        refine ⟨rfl, ?_, HO.out _ (fun c hc => by rw [Below.heap_setCell _ _ _ _ hc, Below.heap_setCell _ _ _ _ hc]), (HB2.out.setCell hB _).setCell hB _⟩
        have := blk_set (i := 3) (.int .i64 y) (blk_set (i := 2) (.int .i64 x) HB.out)
        rw [HW.out]; simpa [widenLo, widenHi, h1, h2] using this
      · go_wp2_with fail
        go_end0
        refine ⟨rfl, ?_, HO.out _ (fun c hc => by rw [Below.heap_setCell _ _ _ _ hc]), (HB2.out.setCell hB _)⟩
        have := blk_set (i := 2) (.int .i64 x) HB.out
        rw [HW.out, widenLo, widenHi, if_pos (.inr h1), if_neg (fun h => h.elim h0 (fun h => by omega))]; simpa using this
    · by_cases h2 : hi < y
      · go_wp2_with fail
        go_end0
        refine ⟨rfl, ?_, HO.out _ (fun c hc => by rw [Below.heap_setCell _ _ _ _ hc]), (HB2.out.setCell hB _)⟩
        have := blk_set (i := 3) (.int .i64 y) HB.out
        rw [HW.out, widenLo, widenHi, if_neg (fun h => h.elim h0 (fun h => by omega)), if_pos (.inr h2)]; simpa using this
      · go_wp2_with fail
        go_end0
        refine ⟨rfl, ?_, HO.out _ (fun c hc => rfl), HB2.out⟩
        rw [HW.out, widenLo, widenHi, if_neg (fun h => h.elim h0 (fun h => by omega)), if_neg (fun h => h.elim h0 (fun h => by omega))]; exact HB.out

end Go.Proofs.YtklicjbpjigfdabGreat
