/- DERIVED. The walk of the document's own settled. -/
import Derived.Test.YtklicjbpjigfdabGreatRefD
import Derived.Test.YtklicjbpjigfdabGreatQ6
import Derived.Test.YtklicjbpjigfdabGreatQ4
import Derived.Test.YtklicjbpjigfdabGreatQ8
import Derived.Deep.RegionHeld3
namespace Go.Proofs.YtklicjbpjigfdabGreat
open Go.RowKit
attribute [local go_sem ↓] Go.wp_at_zero Go.wp_at_succ

theorem set7_blk {w : World} {r : Nat} {a b c d e f h a' b' c' d' e' f' h' : Value} {t : TypeId} (hb : w.heap[r]? = some (.cells #[a, b, c, d, e, f, h] t (0, 0))) : (((((((w.setCell ⟨r, 0, none⟩ a').setCell ⟨r, 1, none⟩ b').setCell ⟨r, 2, none⟩ c').setCell ⟨r, 3, none⟩ d').setCell ⟨r, 4, none⟩ e').setCell ⟨r, 5, none⟩ f').setCell ⟨r, 6, none⟩ h').heap[r]? = some (.cells #[a', b', c', d', e', f', h'] t (0, 0)) := by
  rw [blk_set (i := 6) h' (blk_set (i := 5) f' (blk_set (i := 4) e' (blk_set (i := 3) d' (blk_set (i := 2) c' (blk_set (i := 1) b' (blk_set (i := 0) a' hb))))))]
  simp
theorem set7_other {w : World} {r g : Nat} (a b c d e f h : Value) (h2 : g ≠ r) : (((((((w.setCell ⟨r, 0, none⟩ a).setCell ⟨r, 1, none⟩ b).setCell ⟨r, 2, none⟩ c).setCell ⟨r, 3, none⟩ d).setCell ⟨r, 4, none⟩ e).setCell ⟨r, 5, none⟩ f).setCell ⟨r, 6, none⟩ h).heap[g]? = w.heap[g]? := by
  rw [Below.heap_setCell _ _ _ _ h2, Below.heap_setCell _ _ _ _ h2, Below.heap_setCell _ _ _ _ h2, Below.heap_setCell _ _ _ _ h2, Below.heap_setCell _ _ _ _ h2, Below.heap_setCell _ _ _ _ h2, Below.heap_setCell _ _ _ _ h2]
theorem below_set7 {B r : Nat} {w0 w : World} (hb : Below B w0 w) (hr : B ≤ r) (a b c d e f h : Value) : Below B w0 (((((((w.setCell ⟨r, 0, none⟩ a).setCell ⟨r, 1, none⟩ b).setCell ⟨r, 2, none⟩ c).setCell ⟨r, 3, none⟩ d).setCell ⟨r, 4, none⟩ e).setCell ⟨r, 5, none⟩ f).setCell ⟨r, 6, none⟩ h) :=
  ((((((hb.setCell hr a).setCell hr b).setCell hr c).setCell hr d).setCell hr e).setCell hr f).setCell hr h

/-- As far as settled has come. -/
structure SeSt (Q : Nat → Prop) (X : List Int) (w wr : World) (k : Nat) (lo hi : Int) (sl : Bool) (vk vb vt : Value) (bag : List (Int × Nat)) (L : List Lvl) (u : Nat) : Prop where
  bagA : BagAt wr vb bag
  tms : Ints wr vt (nats (timesN L))
  bel : Below w.heap.size w wr
  box : wr.heap[w.heap.size]? = some (rsBlk k vb vt lo hi sl vk)
  res : wr.heap[w.heap.size + 1]? = some rsZero
  bagOf : BagOf bag L
  lvok : LvOk X L
  len : L.length ≤ 29
  ws : wsum L ≤ 268435456
  ns : nsum L ≤ 100000
  tb : ∀ j, (L.getD j Lvl.none).times ≤ 549755813888 + u
  fr : ∀ b, vb.ownBlock = some b ∨ vt.ownBlock = some b → Q b
  up : ∀ b, w.heap.size ≤ b → Q b

theorem SeSt.later {Q : Nat → Prop} {X : List Int} {w wr w' : World} {k : Nat} {lo hi : Int} {sl : Bool} {vk vb vt : Value} {bag : List (Int × Nat)} {L : List Lvl} {u : Nat} (h : SeSt Q X w wr k lo hi sl vk vb vt bag L u) (hb : Below wr.heap.size wr w') : SeSt Q X w w' k lo hi sl vk vb vt bag L u :=
  { h with bagA := h.bagA.below hb, tms := h.tms.below hb, bel := h.bel.trans (hb.mono h.bel.size), box := (hb.block _ (lt_of_blk' h.box)).trans h.box, res := (hb.block _ (lt_of_blk' h.res)).trans h.res }
theorem timesN_getD (L : List Lvl) (j : Nat) : (timesN L).getD j 0 = (L.getD j Lvl.none).times := by
  simp only [timesN, List.getD, List.getElem?_map]
  cases L[j]? <;> rfl
theorem SeSt.thin {Q : Nat → Prop} {X : List Int} {w wr w3 : World} {k h : Nat} {c : Bool} {lo hi : Int} {sl : Bool} {vk vb vt vb' vt' : Value} {bag : List (Int × Nat)} {L : List Lvl} {u : Nat} (hs : SeSt Q X w wr k lo hi sl vk vb vt bag L u) (ht : toThinL k L = some h)
    (h1 : w3.ownsRow wr.heap.size 126 2 vb' (thinB bag h c).length (itCells (thinB bag h c))) (h2 : w3.ownsRow wr.heap.size 3 1 vt' (thinT (timesN L) h).length (ints (nats (thinT (timesN L) h)))) (hb : Below wr.heap.size wr w3) (a b c' d e f g : Value) (hbx : #[a, b, c', d, e, f, g] = #[.int .i64 (k : Int), vb', vt', .int .i64 lo, .int .i64 hi, .bool sl, vk]) :
    SeSt Q X w (((((((w3.setCell ⟨w.heap.size, 0, none⟩ a).setCell ⟨w.heap.size, 1, none⟩ b).setCell ⟨w.heap.size, 2, none⟩ c').setCell ⟨w.heap.size, 3, none⟩ d).setCell ⟨w.heap.size, 4, none⟩ e).setCell ⟨w.heap.size, 5, none⟩ f).setCell ⟨w.heap.size, 6, none⟩ g) k lo hi sl vk vb' vt' (thinB bag h c) (thinL L h c) (u + 1) := by
  have hh := (toThinL_some ht).1
  have hs3 := hs.later hb
  refine ⟨?_, ?_, below_set7 hs3.bel (Nat.le_refl _) _ _ _ _ _ _ _, ?_, ?_, hs.bagOf.thin hs.lvok hh c, hs.lvok.thin h c, thinL_len ht hs.ws hs.len, ?_, ?_, ?_, fun b e => hs.up b (Nat.le_trans hs.bel.size (e.elim (fun e => (h1.lt b e).1) (fun e => (h2.lt b e).1))), hs.up⟩
  · exact ownsRow_block (ownsRow_base h1 (Nat.zero_le _)) (fun x hx => set7_other _ _ _ _ _ _ _ (own_ne h1 hs3.box (by decide) x hx))
  · rw [thinL_timesN hh]
    exact Ints.of (ownsRow_block h2 (fun x hx => set7_other _ _ _ _ _ _ _ (own_ne h2 hs3.box (by decide) x hx)))
  · rw [set7_blk hs3.box, hbx]
  · rw [set7_other _ _ _ _ _ _ _ (by omega)]; exact hs3.res
  · rw [thinL_wsum hh]; exact hs.ws
  · have := thinL_nsum (c := c) hh; have := hs.ns; omega
  · intro j
    rw [thinL_times hh]
    have := hs.tb j
    split <;> omega

theorem SeSt.ret {Q : Nat → Prop} {X : List Int} {w wr : World} {k : Nat} {lo hi : Int} {sl : Bool} {vk vb vt : Value} {bag : List (Int × Nat)} {L : List Lvl} {u : Nat} (h : SeSt Q X w wr k lo hi sl vk vb vt bag L u) (a b c d e f g : Value) : BagAt (((((((wr.setCell ⟨w.heap.size + 1, 0, none⟩ a).setCell ⟨w.heap.size + 1, 1, none⟩ b).setCell ⟨w.heap.size + 1, 2, none⟩ c).setCell ⟨w.heap.size + 1, 3, none⟩ d).setCell ⟨w.heap.size + 1, 4, none⟩ e).setCell ⟨w.heap.size + 1, 5, none⟩ f).setCell ⟨w.heap.size + 1, 6, none⟩ g) vb bag ∧ Ints (((((((wr.setCell ⟨w.heap.size + 1, 0, none⟩ a).setCell ⟨w.heap.size + 1, 1, none⟩ b).setCell ⟨w.heap.size + 1, 2, none⟩ c).setCell ⟨w.heap.size + 1, 3, none⟩ d).setCell ⟨w.heap.size + 1, 4, none⟩ e).setCell ⟨w.heap.size + 1, 5, none⟩ f).setCell ⟨w.heap.size + 1, 6, none⟩ g) vt (nats (timesN L)) :=
  ⟨ownsRow_block h.bagA (fun x hx => set7_other a b c d e f g (own_ne h.bagA h.res (by decide) x hx)), Ints.block h.tms (fun x hx => set7_other a b c d e f g (own_ne h.tms h.res (by decide) x hx))⟩
theorem BagAt.drew {w : World} {v : Value} {bag : List (Int × Nat)} (h : BagAt w v bag) : BagAt w.drew v bag := h
theorem SeSt.more {Q : Nat → Prop} {X : List Int} {w wr : World} {k : Nat} {lo hi : Int} {sl : Bool} {vk vb vt : Value} {bag : List (Int × Nat)} {L : List Lvl} {u : Nat} (h : SeSt Q X w wr k lo hi sl vk vb vt bag L u) : SeSt Q X w wr k lo hi sl vk vb vt bag L (u + 1) := { h with tb := fun i => Nat.le_succ_of_le (h.tb i) }
theorem SeSt.drew {Q : Nat → Prop} {X : List Int} {w wr : World} {k : Nat} {lo hi : Int} {sl : Bool} {vk vb vt : Value} {bag : List (Int × Nat)} {L : List Lvl} {u : Nat} (h : SeSt Q X w wr k lo hi sl vk vb vt bag L u) : SeSt Q X w wr.drew k lo hi sl vk vb vt bag L u := { h with bel := ⟨h.bel.os, h.bel.tape, h.bel.output, h.bel.size, h.bel.block⟩ }
theorem below_drewn {B : Nat} {w w' : World} (h : Below B w w') : Below B w w'.drew := ⟨h.os, h.tape, h.output, h.size, h.block⟩
/-- What settled answers. -/
def seAns (Q : Nat → Prop) (X : List Int) (w' : World) (k : Nat) (lo hi : Int) (sl : Bool) (vk : Value) (s : ByteArray) (e : Ending) : Option (List Lvl × Nat) → Prop
  | Option.none => ∃ bo bl bc tO tl tc, e = .returned (.tuple #[rsVal k (.slice bo bl bc) (.slice tO tl tc) lo hi sl vk, .string s, .bool false])
  | some (L', u) => ∃ vb' vt' bag', e = .returned (.tuple #[rsVal k vb' vt' lo hi sl vk, .string (s.extract u s.size), .bool true]) ∧ BagAt w' vb' bag' ∧ Ints w' vt' (nats (timesN L')) ∧ BagOf bag' L' ∧ LvOk X L' ∧ ∀ b, vb'.ownBlock = some b ∨ vt'.ownBlock = some b → Q b

theorem coin_at {s : ByteArray} (hs : areCoins s.data.toList = true) {j : Nat} (hj : j < s.size) : ∃ c, (coinsOf s.data.toList).drop j = c :: (coinsOf s.data.toList).drop (j + 1) ∧ s[j].toNat = 48 + (if c then 1 else 0) := by
  have hj' : j < s.data.toList.length := by simpa using hj
  have hc : j < (coinsOf s.data.toList).length := by simpa [coinsOf] using hj
  refine ⟨(coinsOf s.data.toList)[j], (List.drop_eq_getElem_cons hc), ?_⟩
  have hm : s.data.toList[j] ∈ s.data.toList := List.getElem_mem hj'
  have := List.all_eq_true.1 hs _ hm
  have e : s[j] = s.data.toList[j] := rfl
  rw [e]
  simp only [coinsOf, List.getElem_map]
  generalize s.data.toList[j] = x at *
  simp at this
  rcases this with rfl | rfl <;> rfl

set_option maxHeartbeats 2000000 in
set_option maxRecDepth 100000 in
theorem rsettled_any (Q : Nat → Prop) (X : List Int) (k : Nat) (vb vt vk : Value) (lo hi : Int) (sl : Bool) (bag : List (Int × Nat)) (L : List Lvl) (s : ByteArray) (w : World) (hB : BagAt w vb bag) (hT : Ints w vt (nats (timesN L))) (hO : BagOf bag L) (hL : LvOk X L) (hk : k ≤ 255) (hlen : L.length ≤ 29) (hws : wsum L ≤ 268435456) (hns : nsum L ≤ 100000) (htm : ∀ j, (L.getD j Lvl.none).times ≤ 549755813888) (hsz : s.size ≤ 1024) (hco : areCoins s.data.toList = true) (hvk : ∃ ko kl kc, vk = .slice ko kl kc) (hq1 : ∀ b, vb.ownBlock = some b ∨ vt.ownBlock = some b → Q b) (hq2 : ∀ b, w.heap.size ≤ b → Q b) :
    Calls Tryz.prog 89 #[rsVal k vb vt lo hi sl vk, .string s] w fun e w' => Below w.heap.size w w' ∧ seAns Q X w' k lo hi sl vk s e (settle k (coinsOf s.data.toList) 0 L) := by
  obtain ⟨ko, kl, kc, rfl⟩ := hvk
  have HCO := hid (fun j (hj : j < s.size) => coin_at hco hj)
  have HCL : Hid ((coinsOf s.data.toList).length = s.size) := by simp [Hid, coinsOf]
  have HS0 : Hid (SeSt Q X w ((w.alloc (rsBlk k vb vt lo hi sl (.slice ko kl kc))).alloc rsZero) k lo hi sl (.slice ko kl kc) vb vt bag L 0) := by
    have hb : Below w.heap.size w ((w.alloc (rsBlk k vb vt lo hi sl (.slice ko kl kc))).alloc rsZero) := (((Below.refl w.heap.size w).alloc (Nat.le_refl _) _).alloc (by simp) _)
    refine ⟨hB.below hb, hT.below hb, hb, ?_, ?_, hO, hL, hlen, hws, hns, fun j => by have := htm j; omega, hq1, hq2⟩
    · rw [Below.heap_alloc _ _ _ (by simp)]; exact heap_alloc_new _ _
    · rw [show w.heap.size + 1 = (w.alloc (rsBlk k vb vt lo hi sl (.slice ko kl kc))).heap.size by simp]
      exact heap_alloc_new _ _
  have HSE : Hid (settle k (coinsOf s.data.toList) 0 L = settle k ((coinsOf s.data.toList).drop 0) 0 L) := rfl
  generalize hSE : settle k (coinsOf s.data.toList) 0 L = SE at *
  obtain ⟨bo, bcap, rfl, _, _⟩ := hB.form
  obtain ⟨ta, tcap, rfl, _, _, _⟩ := hT.form
  clear hSE hco htm hns hws hO hL hlen hB hT hq1 hq2
  go_enter Tryz.func89, Tryz.ntmps89
  go_wp2_with fail
  go_loopw [7] (fun si wr => ∃ (j : Nat) (vb' vt' : Value) (bag' : List (Int × Nat)) (L' : List Lvl), j ≤ s.size + 1 ∧ si = .int .i64 j ∧ Hid (SeSt Q X w wr k lo hi sl (.slice ko kl kc) vb' vt' bag' L' j) ∧ Hid ((j ≤ s.size → SE = settle k ((coinsOf s.data.toList).drop j) j L') ∧ (s.size < j → SE = Option.none))) (fun si _ => s.size + 1 - (intOf si).toNat)
  case atStart => exact ⟨0, _, _, _, _, Nat.zero_le _, rfl, HS0, fun _ => HSE.out, fun h => by omega⟩
  case round =>
    obtain ⟨j, vb', vt', bag', L', hj, rfl, Hs, He⟩ := hrel
    obtain ⟨bo', bcap', rfl, _, _⟩ := Hs.out.bagA.form
    obtain ⟨ta', tcap', rfl, _, _, _⟩ := Hs.out.tms.form
    clear HS0 HSE
    obtain ⟨c0, c1, c2, c3, c4, c5, c6, cz⟩ := blk7' Hs.out.box
    obtain ⟨r0, r1, r2, r3, r4, r5, r6, rz⟩ := blk7' Hs.out.res
    have hz1 := lt_of_blk' Hs.out.res
    by_cases hlt : j ≤ s.size
    · have HE := hid (He.out.1 hlt)
      have HCR := hid (rcrowded_any k (nats (timesN L')).length tcap' ta' (.slice bo' bag'.length bcap') (.slice ko kl kc) lo hi sl bag' wr Hs.out.bagA hk (by rw [nats_length, timesN_length]; have := Hs.out.len; omega) (by rw [Hs.out.bagOf.nsum]; exact Hs.out.ns))
      have ecr : crowdB k bag' (nats (timesN L')).length = toThinL k L' := by rw [nats_length, timesN_length]; exact crowdB_eq Hs.out.bagOf
      rw [ecr] at HCR
      clear ecr
      have hlt' : decide ((j : Int) ≤ (s.size : Int)) = true := by simp; omega
      cases htt : toThinL k L' with
      | none =>
        have HE2 : Hid (SE = some (L', j)) := by rw [Hid, HE.out]; exact settle_done htt
        rw [htt, crAns] at HCR
        go_wp2_with fail
        refine HCR.out.mono ?_
        rintro e w2 ⟨rfl, hb2⟩
        have HS2 := hid (Hs.out.later hb2)
        clear hb2 HCR Hs c0 c1 c2 c3 c4 c5 c6 cz r0 r1 r2 r3 r4 r5 r6 rz hz1
        obtain ⟨c0, c1, c2, c3, c4, c5, c6, cz⟩ := blk7' HS2.out.box
        obtain ⟨r0, r1, r2, r3, r4, r5, r6, rz⟩ := blk7' HS2.out.res
        have hz1 := lt_of_blk' HS2.out.res
        go_upto_region 6 with fail
        go_region
        go_wp2_with fail
        refine bodyPost_ret (v := .tuple #[rsVal k (.slice bo' bag'.length bcap') (.slice ta' (nats (timesN L')).length tcap') lo hi sl (.slice ko kl kc), .string (s.extract j s.size), .bool true]) (by simp [results, Tryz.results89, go_sem, r0, r1, r2, r3, r4, r5, r6]) rfl ⟨below_drewn (below_set7 HS2.out.bel (by omega) _ _ _ _ _ _ _), ?_⟩
        rw [HE2.out]
        refine ⟨_, _, bag', rfl, ?_, ?_, HS2.out.bagOf, HS2.out.lvok, HS2.out.fr⟩
        · exact (HS2.out.ret _ _ _ _ _ _ _).1.drew
        · exact (HS2.out.ret _ _ _ _ _ _ _).2.drew
      | some h =>
        rw [htt, crAns] at HCR
        have HTT := hid htt
        have hh29 : h < 29 := by have := (toThinL_some htt).1; have := Hs.out.len; omega
        by_cases hlt2 : j < s.size
        · have hlt2' : decide ((j : Int) < (s.size : Int)) = true := by simp; omega
          obtain ⟨c, hc1, hc2⟩ := HCO.out j hlt2
          have HE2 : Hid (SE = settle k ((coinsOf s.data.toList).drop (j + 1)) (j + 1) (thinL L' h c)) := by rw [Hid, HE.out, hc1]; exact settle_step htt
          have HTH := hid (fun (w' : World) (hs : SeSt Q X w w' k lo hi sl (.slice ko kl kc) (.slice bo' bag'.length bcap') (.slice ta' (nats (timesN L')).length tcap') bag' L' j) => rthinned_any k h (.slice bo' bag'.length bcap') (.slice ta' (nats (timesN L')).length tcap') (.slice ko kl kc) lo hi sl c bag' (timesN L') w' hs.bagA hs.tms (by rw [hs.bagOf.nsum]; exact hs.ns) (by rw [timesN_length]; exact (toThinL_some htt).1) (by rw [timesN_length]; have := hs.len; omega) (fun i => by rw [timesN_getD]; have := hs.tb i; omega) _ rfl ⟨_, _, _, rfl⟩)
          rw [← hc2] at HTH
          clear hc1 hc2 htt
          go_wp2_with fail
          refine HCR.out.mono ?_
          rintro e w2 ⟨rfl, hb2⟩
          have HS2 := hid (Hs.out.later hb2)
          clear hb2 HCR Hs c0 c1 c2 c3 c4 c5 c6 cz r0 r1 r2 r3 r4 r5 r6 rz hz1
          obtain ⟨c0, c1, c2, c3, c4, c5, c6, cz⟩ := blk7' HS2.out.box
          have hz1 := lt_of_blk' HS2.out.box
          go_upto_region 8 with fail
          go_region_with (first | (go_at_call 110; refine (HTH.out _ HS2.out.drew).mono ?_; rintro e w3 ⟨vb3, vt3, rfl, h1, h2, h3⟩; have HS3 := hid (HS2.out.drew.later h3); obtain ⟨bo3, bc3, rfl, _, _⟩ := (BagAt.of h1 rfl).form; obtain ⟨ta3, tc3, rfl, _, _, _⟩ := (Ints.of h2).form; have HS4 := hid (HS2.out.drew.thin HTT.out h1 h2 h3); clear h1 h2 h3; obtain ⟨d0, d1, d2, d3, d4, d5, d6, dz⟩ := blk7' HS3.out.box; have hz3 := lt_of_blk' HS3.out.box))
          all_goals
            have HS5 := hid (HS4.out (.int .i64 (k : Int)) (.slice bo3 (thinB bag' h c).length bc3) (.slice ta3 (nats (thinT (timesN L') h)).length tc3) (.int .i64 lo) (.int .i64 hi) (.bool sl) (.slice ko kl kc) rfl)
            clear HS4 HS3 HS2 d0 d1 d2 d3 d4 d5 d6 dz hz3 c0 c1 c2 c3 c4 c5 c6 cz hz1
            go_wp2_with fail
            go_roundw
            case rel => exact ⟨j + 1, _, _, _, _, by omega, by go_num, HS5, ⟨fun _ => HE2.out, fun h => by omega⟩⟩
            case measure => simp [intOf]; omega
        · have hlt2' : decide ((j : Int) < (s.size : Int)) = false := by simp; omega
          have HE2 : Hid (SE = Option.none) := by
            rw [Hid, HE.out, List.drop_eq_nil_of_le (by rw [HCL.out]; omega)]; exact settle_short htt
          clear htt
          go_wp2_with fail
          refine HCR.out.mono ?_
          rintro e w2 ⟨rfl, hb2⟩
          have HS2 := hid (Hs.out.later hb2)
          clear hb2 HCR Hs c0 c1 c2 c3 c4 c5 c6 cz r0 r1 r2 r3 r4 r5 r6 rz hz1
          go_wp2_with fail
          go_roundw
          case rel => exact ⟨j + 1, _, _, _, _, by omega, by go_num, HS2.out.more, ⟨fun h => by omega, fun _ => HE2.out⟩⟩
          case measure => simp [intOf]; omega
    · have HE := hid (He.out.2 (by omega))
      have hlt' : decide ((j : Int) ≤ (s.size : Int)) = false := by simp; omega
      go_wp2_with fail
      refine bodyPost_ret (v := .tuple #[rsVal k (.slice bo' bag'.length bcap') (.slice ta' (nats (timesN L')).length tcap') lo hi sl (.slice ko kl kc), .string s, .bool false]) (by simp [results, Tryz.results89, go_sem, r0, r1, r2, r3, r4, r5, r6]) rfl ⟨below_set7 Hs.out.bel (by omega) _ _ _ _ _ _ _, ?_⟩
      rw [HE.out]
      exact ⟨_, _, _, _, _, _, rfl⟩

end Go.Proofs.YtklicjbpjigfdabGreat
