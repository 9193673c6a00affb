/- DERIVED. The walk of Settled: a copy that has settled, or nothing, if the coins are too few. -/
import Derived.Test.YtklicjbpjigfdabGreatQ3
import Derived.Test.YtklicjbpjigfdabGreatThinW
namespace Go.Proofs.YtklicjbpjigfdabGreat
open Go.RowKit
variable {F : Nat → Prop}

def ans9 : Option Nat → Int
  | Option.none => 0
  | some h => (h : Int)
theorem ans9_none : ans9 Option.none = 0 := rfl
theorem ans9_some (h : Nat) : ans9 (some h) = (h : Int) := rfl
theorem thinAns_eq (o : Option Nat) : thinAns o = .tuple #[.int .i64 (ans9 o), .bool o.isSome] := by cases o <;> rfl

theorem toThin_L (k g cap : Nat) (lo hi : Int) (vs : List Value) (L : List Lvl) (w : World) (hL : LvAt F w g cap vs L) (hk : k ≤ 64) (hlen : L.length ≤ 30) (hbd : nsum L ≤ 1099511627776) :
    Calls Tryz.prog 107 #[skVal k g L.length cap lo hi] w fun e w' => e = .returned (.tuple #[.int .i64 (ans9 (toThinL k L)), .bool (toThinL k L).isSome]) ∧ Below w.heap.size w w' := by
  refine (toThin_any k g cap lo hi vs L w hL hk hlen hbd).mono ?_
  rintro e w' ⟨rfl, h⟩
  rw [toThin_eq, thinAns_eq]
  exact ⟨rfl, h⟩

/-- What Settled answers. -/
def setAns (F : Nat → Prop) (k : Nat) (lo hi : Int) (base : Nat) (e : Ending) (w' : World) : Option (List Lvl × Nat) → Prop
  | Option.none => e = .returned (.tuple #[.agg #[.int .i64 0, .slice none 0 0, .int .i64 0, .int .i64 0], .int .i64 0, .bool false])
  | some (L, u) => ∃ g cap vs, e = .returned (.tuple #[skVal k g L.length cap lo hi, .int .i64 (u : Int), .bool true]) ∧ base ≤ g ∧ LvAt F w' g cap vs L

set_option maxHeartbeats 1600000 in
set_option maxRecDepth 100000 in
theorem settled_any (k g cap : Nat) (lo hi : Int) (vs : List Value) (L : List Lvl) (vc : Value) (cs : List Bool) (w : World) (hL : LvAt F w g cap vs L) (hc : Bools w vc cs) (hk : k ≤ 64) (hlen : L.length ≤ 29) (hws : wsum L ≤ 268435456) (htm : ∀ j, (L.getD j Lvl.none).times ≤ 549755813888) (hcs : cs.length ≤ 1024) (hF : ∀ b, w.heap.size ≤ b → F b) :
    Calls Tryz.prog 86 #[skVal k g L.length cap lo hi, vc] w fun e w' => setAns F k lo hi w.heap.size e w' (settle k cs 0 L) ∧ Below w.heap.size w w' := by
  have HF := hid hF
  clear hF
  have HC := hid (fun (w' : World) (h : LvAt F w' g cap vs L) => copied_any k g cap lo hi vs L w' h (by omega))
  obtain ⟨ao, cc, rfl, hcl, hcm, hnone, hsome⟩ := hc.form
  have HTM := hid htm
  clear htm
  go_enter Tryz.func86, Tryz.ntmps86
  go_wp2_with fail
  refine (HC.out _ (hL.below (((Below.refl _ _).alloc (Nat.le_refl _) _).alloc (by simp) _))).mono ?_
  rintro e w1 ⟨g1, cap1, rfl, hg1, hL1, hb1⟩
  generalize hW : (w.alloc (.cells #[.int .i64 (k : Int), .slice (some ⟨g, 0, none⟩) L.length cap, .int .i64 lo, .int .i64 hi] 64)).alloc (.cells #[.int .i64 0, .slice none 0 0, .int .i64 0, .int .i64 0] 64) = W at *
  have HW := hid hW
  have hwsz : W.heap.size = w.heap.size + 1 + 1 := by rw [← hW]; simp
  have hWr : W.heap[w.heap.size + 1]? = some (.cells #[.int .i64 0, .slice none 0 0, .int .i64 0, .int .i64 0] 64 (0, 0)) := by rw [← hW, show w.heap.size + 1 = (w.alloc (.cells #[.int .i64 (k : Int), .slice (some ⟨g, 0, none⟩) L.length cap, .int .i64 lo, .int .i64 hi] 64)).heap.size by simp]; exact heap_alloc_new _ _
  have HWr := hid hWr
  have hz1 := hb1.size
  have HST0 : Hid (SkSt F W.heap.size w1.heap.size k lo hi L W (w1.alloc (skBlock k g1 L.length cap1 lo hi))) := SkSt.laid hg1 hL1 hb1 hb1.size
  have Hws := hid hwsz
  have Hbw : Hid (Below w.heap.size w W) := by rw [← hW]; exact ((Below.refl _ _).alloc (Nat.le_refl _) _).alloc (by simp) _
  have HL1 : Hid (LvAt F (w1.alloc (skBlock k g1 L.length cap1 lo hi)) g1 cap1 vs L) := hL1.below ((Below.refl _ _).alloc (Nat.le_refl _) _)
  have hnl := nsum_le L
  clear hW hL1 hb1 hWr hwsz HC
  go_wp2_with fail
  refine (toThin_L k g1 cap1 lo hi vs L _ HL1.out hk (by omega) (by omega)).mono ?_
  rintro e w2 ⟨rfl, hb2⟩
  have HS2 : Hid (SkSt F W.heap.size w1.heap.size k lo hi L W w2) := HST0.out.below (by simp; omega) hb2
  generalize hb : w1.heap.size = b at *
  generalize hBB : W.heap.size = B at *
  have HBB := hid hBB
  generalize hT : settle k cs 0 L = T at *
  have HT := hid hT
  generalize hcn : cs.length = cn at *
  have HCN := hid hcn
  have HNO := hid hnone
  have HSO := hid hsome
  clear hb hBB hT HL1 HST0 hb2 hcn hnone hsome
  go_wp2_with fail
  go_loopw [8, 9, 10] (fun su sh sf wr => ∃ (u : Nat) (Lc : List Lvl), su = .int .i64 u ∧ sh = .int .i64 (ans9 (toThinL k Lc)) ∧ sf = .bool (toThinL k Lc).isSome ∧ u ≤ cn ∧ wsum Lc ≤ 268435456 ∧ Lc.length ≤ 29 ∧ Hid (∀ j, (Lc.getD j Lvl.none).times ≤ 549755813888 + u) ∧ Hid (settle k (cs.drop u) u Lc = T) ∧ Hid (SkSt F B b k lo hi Lc W wr)) (fun su _ _ _ => cn - (intOf su).toNat)
  case atStart => exact ⟨0, L, rfl, rfl, rfl, Nat.zero_le _, hws, hlen, HTM, HT, HS2⟩
  case round =>
    obtain ⟨u, Lc, rfl, rfl, rfl, hu, hwc, hlc, Htm, Hset, HSt⟩ := hrel
    clear HS2
    have hbr := HSt.out.lt
    obtain ⟨g2, cap2, vs2, hBg, hb2, hL2, hbel2⟩ := HSt.out
    have HP : Hid (B ≤ g2 ∧ wr.heap[b]? = some (skBlock k g2 Lc.length cap2 lo hi) ∧ LvAt F wr g2 cap2 vs2 Lc ∧ Below B W wr) := ⟨hBg, hb2, hL2, hbel2⟩
    obtain ⟨f0, f1, f2, f3, fz⟩ := blk4 hb2
    have hres : wr.heap[w.heap.size + 1]? = some (.cells #[.int .i64 0, .slice none 0 0, .int .i64 0, .int .i64 0] 64 (0, 0)) := (hbel2.block _ (by have := HBB.out; have := Hws.out; omega)).trans HWr.out
    obtain ⟨d0, d1, d2, d3, dz⟩ := blk4 hres
    have HRES := hid hres
    have hnlc := nsum_le Lc
    have hBr : B ≤ wr.heap.size := by omega
    clear hb2 hL2 hbel2 hres
    cases ho : toThinL k Lc with
    | none =>
      have HO := hid ho
      have HF : Hid (T = some (Lc, u)) := by have := Hset.out; rw [settle_done ho] at this; exact this.symm
      clear ho
      simp only [ans9_none, Option.isSome_none]
      go_wp2_with fail
      refine bodyPost_ret (v := .tuple #[skVal k g2 Lc.length cap2 lo hi, .int .i64 (u : Int), .bool true]) (by simp [results, Tryz.results86, go_sem, d0, d1, d2, d3]) rfl ?_
      rw [HT.out, HF.out]
      refine ⟨⟨g2, cap2, vs2, rfl, ?_, ?_⟩, ?_⟩
      · have := HBB.out; have := Hws.out; omega
      · refine HP.out.2.2.1.block (fun c hc => set4_other _ _ _ _ (fun e => ?_))
        subst e
        rcases hc with hc | ⟨c, hc⟩
        · have := HBB.out; have := Hws.out; omega
        · rw [HRES.out] at hc; cases hc
      · refine below_set4 (Hbw.out.trans (HP.out.2.2.2.mono ?_)) (by omega) _ _ _ _
        have := HBB.out; have := Hws.out; omega
    | some h =>
      have HO := hid ho
      obtain ⟨hh1, hh2, _⟩ := toThinL_some ho
      clear ho
      simp only [ans9_some, Option.isSome_some]
      by_cases hend : u = cn
      · have hend' : ((u : Int) == (cn : Int)) = true := by simp; omega
        have HE := hid hend
        clear hend
        have HF : Hid (T = Option.none) := by
          have := Hset.out
          rw [List.drop_eq_nil_of_le (by rw [HCN.out, HE.out]; exact Nat.le_refl _), settle_short HO.out] at this
          exact this.symm
        go_wp2_with fail
        refine bodyPost_ret (v := .tuple #[.agg #[.int .i64 0, .slice none 0 0, .int .i64 0, .int .i64 0], .int .i64 0, .bool false]) (by simp [results, Tryz.results86, go_sem, d0, d1, d2, d3]) rfl ?_
        rw [HT.out, HF.out]
        refine ⟨rfl, ?_⟩
        refine below_set4 (Hbw.out.trans (HP.out.2.2.2.mono ?_)) (by omega) _ _ _ _
        have := HBB.out; have := Hws.out; omega
      · have hend' : ((u : Int) == (cn : Int)) = false := by simp; omega
        have hult : u < cn := by omega
        obtain ⟨gc, rfl⟩ : ∃ g, ao = some ⟨g, 0, none⟩ := by
          cases ao with
          | none => have := (HNO.out rfl).1; rw [this] at HCN; have := HCN.out; simp at this; omega
          | some a => obtain ⟨g, rfl, _⟩ := HSO.out a rfl; exact ⟨g, rfl⟩
        obtain ⟨gc', e1, hgc, hcc⟩ := HSO.out _ rfl
        cases e1
        have hbw : Below w.heap.size w wr := Hbw.out.trans (HP.out.2.2.2.mono (by have := HBB.out; have := Hws.out; omega))
        have hcell : wr.cell? ⟨gc, u, none⟩ = some (.bool (cs.getD u false)) := (hbw.cell (by exact hgc)).trans (hcc u hult)
        have HST : Hid (settle k (cs.drop (u + 1)) (u + 1) (thinL Lc h (cs.getD u false)) = T) := by
          have := Hset.out
          rw [List.drop_eq_getElem_cons (by rw [HCN.out]; exact hult), settle_step HO.out] at this
          rw [show cs.getD u false = cs[u]'(by rw [HCN.out]; exact hult) by simp [List.getD, HCN.out, hult]]
          exact this
        generalize cs.getD u false = coin at *
        have HTH := hid (thin_any B b k h coin lo hi Lc W wr HSt.out hz1 hh1 (by omega) (by omega) (by omega) (by have := Htm.out h; omega) (fun c hc => HF.out c (by have := HBB.out; have := Hws.out; omega)))
        have hl9 := thinL_len (c := coin) HO.out hwc hlc
        have hw9 : wsum (thinL Lc h coin) ≤ 268435456 := by rw [thinL_wsum hh1]; exact hwc
        have Htm9 : Hid (∀ j, ((thinL Lc h coin).getD j Lvl.none).times ≤ 549755813888 + (u + 1)) := fun j => by
          rw [thinL_times hh1]
          have := Htm.out j
          split <;> omega
        generalize thinL Lc h coin = L9 at *
        clear hcc hbw
        go_wp2_with fail
        refine HTH.out.mono ?_
        rintro e w3 ⟨rfl, hst3⟩
        have HS3 := hid hst3
        have hb3z := hst3.lt
        obtain ⟨g3, cap3, vs3, hBg3, hb3, hL3, hbel3⟩ := hst3
        obtain ⟨p0, p1, p2, p3, pz⟩ := blk4 hb3
        have HL3 := hid hL3
        have hnl9 := nsum_le L9
        clear hb3 hL3 hbel3 HTH
        go_wp2_with fail
        refine (toThin_L k g3 cap3 lo hi vs3 L9 _ HL3.out hk (by omega) (by omega)).mono ?_
        rintro e w4 ⟨rfl, hb4⟩
        have HS4 : Hid (SkSt F B b k lo hi L9 W w4) := HS3.out.below (by omega) hb4
        clear hb4
        go_wp2_with fail
        go_roundw
        case rel => exact ⟨u + 1, L9, by go_num, rfl, rfl, by omega, hw9, hl9, Htm9, HST, HS4⟩
        case measure => simp [intOf]; omega

end Go.Proofs.YtklicjbpjigfdabGreat
