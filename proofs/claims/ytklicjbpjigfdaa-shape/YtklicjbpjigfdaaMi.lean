/- DERIVED. The walks of the statement's own shape and sameInts. -/
import Derived.Test.YtklicjbpjigfdaaMh
import Derived.Test.YtklicjbpjigfdaaMe
import Derived.Test.YtklicjbpjigfdaaMv
import Derived.Deep.AppendLies
import Derived.Deep.Cut
import Derived.Deep.CutRange
namespace Go.Proofs.Ytklicjbpjigfdaa
open Go.RowKit
variable {K : Nat → Prop} {w0 : World}

def lens (L : List Lvl) : List Int := L.map fun l => (l.items.length : Int)
/-- The list that shape makes. -/
def shapeOf (k : Nat) (L : List Lvl) : List Int := [0, 0, (k : Int), (wsum L : Int), (nsum L : Int), (L.length : Int), (esum L : Int), (ssum L : Int)] ++ timesOf L ++ lens L
theorem sh_lens {L T : List Lvl} (h : sh L = sh T) : lens L = lens T := by
  have : lens L = (sh L).map (fun p => (p.1 : Int)) := by simp [lens, sh]
  rw [this, h]; simp [lens, sh]
theorem shapeOf_sh {k : Nat} {L T : List Lvl} (h : sh L = sh T) : shapeOf k L = shapeOf k T := by
  obtain ⟨a1, a2, a3, a4, a5⟩ := sh_sums h
  unfold shapeOf
  rw [a1, a2, a3, a4, a5, sh_lens h, sh_len h]
theorem lens_take {L : List Lvl} {j : Nat} (h : j < L.length) : (lens L).take (j + 1) = (lens L).take j ++ [((L.getD j Lvl.none).items.length : Int)] := by
  have hl : j < (lens L).length := by simpa [lens] using h
  rw [List.take_succ_eq_append_getElem hl]
  simp [lens, List.getD, h]

theorem eight_new (w : World) (a b c d e f g h : Value) (t : TypeId) : ∀ j u, [a, b, c, d, e, f, g, h][j]? = some u → (w.alloc (.cells #[a, b, c, d, e, f, g, h] t)).cell? ((⟨w.heap.size, 0, none⟩ : Addr).add j) = some u := by
  intro j u hu
  match j, hu with
  | 0, hu => simp at hu; subst hu; simp [Addr.add]
  | 1, hu => simp at hu; subst hu; simp [Addr.add]
  | 2, hu => simp at hu; subst hu; simp [Addr.add]
  | 3, hu => simp at hu; subst hu; simp [Addr.add]
  | 4, hu => simp at hu; subst hu; simp [Addr.add]
  | 5, hu => simp at hu; subst hu; simp [Addr.add]
  | 6, hu => simp at hu; subst hu; simp [Addr.add]
  | 7, hu => simp at hu; subst hu; simp [Addr.add]

set_option maxHeartbeats 2000000 in
set_option maxRecDepth 100000 in
theorem shape_any (p d i : Nat) (ps : Nat → Nat) (W : Wd) (w : World) (h : WdSt K w0 w p d 3 ps W) (hi : i < 3) (hl : W.D.sks.length = 3) (hc : Came (W.D.sks.getD i Hd.none) (W.sd i)) (hro : Roomy (W.D.sks.getD i Hd.none).sk.k (W.D.sks.getD i Hd.none).sk.lv) :
    Calls Try.prog 29 #[.pointer (some ⟨p, 0, none⟩), .int .i64 (i : Int)] w fun e w' => ∃ v, e = .returned v ∧ Ints w' v (shapeOf (W.D.sks.getD i Hd.none).sk.k (W.D.sks.getD i Hd.none).sk.lv) ∧ Below w.heap.size w w' := by
  obtain ⟨own, vs, vx, vw, h, _⟩ := h
  obtain ⟨c0, c1, c2, c3, c4, c5, c6, cz⟩ := blk7 h.blk
  have hil : i < W.D.sks.length := by rw [hl]; exact hi
  have hss := ssum_small hc hro
  have HD := hid h.desk
  have HS := hid (deskSize d W.D i w h.desk hil hc.inok.ok)
  have HLE := hid (fun (w' : World) (hb : Below w.heap.size w w') => deskLedger d W.D i w' (HD.out.below hb) hil hc.inok.ok hss)
  have HLV := hid (fun (w' : World) (hb : Below w.heap.size w w') (j : Nat) (hj : j < (W.D.sks.getD i Hd.none).sk.lv.length) => deskLevel d W.D i j w' (HD.out.below hb) hil hj hc.inok.ok)
  have HPB := hid h.blk
  have hpz := lt_of_blk' h.blk
  have hlen1 := hc.inok.ok.len1
  have hlen2 := hc.inok.ok.len
  generalize W.D.sks.getD i Hd.none = de at *
  generalize hlve : de.sk.lv = L at *
  generalize hlne : L.length = ln at *
  have HLN0 := hid hlne
  generalize de.sk.k = k at *
  obtain ⟨i0, hi0, hz0, hz1, hz2⟩ := info_parts Try.infoInt
  clear h hc hlve hlne hil hl hro hss
  go_enter Try.func29, Try.ntmps29
  go_wp2_with fail
  refine HS.out.mono ?_
  rintro e w1 ⟨rfl, hb1⟩
  have hp1 := (hb1.block _ hpz).trans HPB.out
  clear c0 c1 c2 c3 c4 c5 c6 cz
  obtain ⟨c0, c1, c2, c3, c4, c5, c6, cz⟩ := blk7 hp1
  have HB1 := hid hb1
  have hpz1 : p < w1.heap.size := lt_of_blk' hp1
  clear hb1 hp1 HS
  go_wp2_with fail
  have hbz : Below w.heap.size w (w1.alloc (.cells #[.int .i64 (k : Int), .int .i64 (wsum L : Int), .int .i64 (nsum L : Int), .int .i64 (ln : Int)] 67)) := HB1.out.alloc HB1.out.size _
  refine (HLE.out _ hbz).mono ?_
  rintro e w2 ⟨gt, ct, rfl, hgt, hown, hb2⟩
  have hzb2 : w2.heap[w1.heap.size]? = some (.cells #[.int .i64 (k : Int), .int .i64 (wsum L : Int), .int .i64 (nsum L : Int), .int .i64 (ln : Int)] 67 (0, 0)) := (hb2.block _ (by simp)).trans (heap_alloc_new w1 _)
  have hbw2 : Below w.heap.size w w2 := hbz.trans (hb2.mono hbz.size)
  generalize hzg : w1.heap.size = zb at *
  clear hzg
  have hWB : Below w.heap.size w (w2.alloc (.cells #[.slice (some ⟨gt, 0, none⟩) ln ct, .int .i64 (esum L : Int), .int .i64 (ssum L : Int)] 74)) := hbw2.alloc hbw2.size _
  have hGB : (w2.alloc (.cells #[.slice (some ⟨gt, 0, none⟩) ln ct, .int .i64 (esum L : Int), .int .i64 (ssum L : Int)] 74)).heap[w2.heap.size]? = some (.cells #[.slice (some ⟨gt, 0, none⟩) ln ct, .int .i64 (esum L : Int), .int .i64 (ssum L : Int)] 74 (0, 0)) := heap_alloc_new w2 _
  have hZB : (w2.alloc (.cells #[.slice (some ⟨gt, 0, none⟩) ln ct, .int .i64 (esum L : Int), .int .i64 (ssum L : Int)] 74)).heap[zb]? = some _ := (Below.heap_alloc w2 _ zb (lt_of_blk' hzb2)).trans hzb2
  have hTR := ownsRow_below hown ((Below.refl w2.heap.size w2).alloc (Nat.le_refl _) (.cells #[.slice (some ⟨gt, 0, none⟩) ln ct, .int .i64 (esum L : Int), .int .i64 (ssum L : Int)] 74)) (fun g e => ownsRow_lt hown e)
  clear hown hb2 hgt c0 c1 c2 c3 c4 c5 c6 cz hbw2 hzb2 hbz HLE
  go_upto_region 4 with fail
  generalize w2.alloc (.cells #[.slice (some ⟨gt, 0, none⟩) ln ct, .int .i64 (esum L : Int), .int .i64 (ssum L : Int)] 74) = WB at *
  generalize w2.heap.size = gb at *
  obtain ⟨z0, z1, z2, z3, zz⟩ := blk4 hZB
  obtain ⟨y0, y1, y2, yz⟩ := blk3 hGB
  have HWB := hid hWB
  have HZB := hid hZB
  have HGB := hid hGB
  have HTR := hid hTR
  have hzb := lt_of_blk' hZB
  have hgb := lt_of_blk' hGB
  have hgtz := ownsRow_lt hTR rfl
  clear hWB hZB hGB hTR
  go_wp2_with (first | (at_builtin; refine wpList_append_lies _ rfl (.tmp 31) (.tmp 46) 42 rfl WB.heap.size 3 i0 (.int .i64 0) 1 8 Try.underlying42 hi0 hz0 hz1 hz2 rfl (by decide) (.slice none 0 0) 0 [] rfl (World.ownsRow_nil _ _ _ _) ⟨WB.heap.size, 0, none⟩ 8 8 [.int .i64 0, .int .i64 0, .int .i64 (k : Int), .int .i64 (wsum L : Int), .int .i64 (nsum L : Int), .int .i64 (ln : Int), .int .i64 (esum L : Int), .int .i64 (ssum L : Int)] rfl rfl (eight_new _ _ _ _ _ _ _ _ _ _) (by intro u hu; simp at hu; rcases hu with rfl | rfl | rfl | rfl | rfl | rfl | rfl | rfl <;> rfl) (by decide) (by unfold maxLen; omega) (by omega) (by simp) (WB.heap.size + 1) (by simp) ?_; intro g1 cap1 w3 hown3 hgrow3 hat3 hlt3; have HO3 : Hid (w3.ownsRow WB.heap.size 3 1 (.slice (some ⟨g1, 0, none⟩) 8 cap1) 8 (ints [0, 0, (k : Int), (wsum L : Int), (nsum L : Int), (ln : Int), (esum L : Int), (ssum L : Int)])) := hown3; have hb3 : Below WB.heap.size WB w3 := ((Below.refl _ _).alloc (Nat.le_refl _) _).grown hgrow3 (by simp) (fun k h => by cases h); obtain ⟨x0, x1, x2, xz⟩ := blk3 ((hb3.block gb hgb).trans HGB.out); have HB3 := hid hb3; have HTR3 := hid (ownsRow_below HTR.out hb3 (fun g e => ownsRow_lt HTR.out e)); clear hown3 hgrow3 hat3 hb3) | (at_builtin; refine wpList_append_lies _ rfl (.tmp 48) (.tmp 50) 42 rfl WB.heap.size 3 i0 (.int .i64 0) 1 8 Try.underlying42 hi0 hz0 hz1 hz2 rfl (by decide) (.slice (some ⟨g1, 0, none⟩) 8 cap1) 8 (ints [0, 0, (k : Int), (wsum L : Int), (nsum L : Int), (ln : Int), (esum L : Int), (ssum L : Int)]) rfl HO3.out ⟨gt, 0, none⟩ ln ct (ints (timesOf L)) rfl (by rw [ints_length, timesOf_len, HLN0.out]; omega) (fun j u hu => by have h9 := ownsRow_cell HTR3.out hu; rw [Addr.add_lit, Nat.zero_add]; exact h9) (ints_one _) (by omega) (by unfold maxLen; omega) (by omega) HB3.out.size w3.heap.size rfl ?_; intro g2 cap2 w4 hown4 hgrow4 hat4 hlt4; rw [← ints_append] at hown4; have HO4 := hid hown4; have hb4 : Below WB.heap.size WB w4 := HB3.out.grown hgrow4 HB3.out.size (fun k h => by cases h; exact (HO3.out.lt _ rfl).1); have HB4 := hid hb4; clear hown4 hgrow4 hat4 hb4))
  clear x0 x1 x2 xz y0 y1 y2 yz z0 z1 z2 z3 zz HO3 HB3 HTR3
  generalize hS0 : [0, 0, (k : Int), (wsum L : Int), (nsum L : Int), (ln : Int), (esum L : Int), (ssum L : Int)] ++ timesOf L = S0 at *
  have HS0 := hid hS0
  clear hS0
  go_loopw [5, 10] (fun sv si wr => ∃ (j g cp : Nat), j ≤ ln ∧ si = .int .i64 j ∧ sv = .slice (some ⟨g, 0, none⟩) (8 + ln + j) cp ∧ Hid (wr.ownsRow WB.heap.size 3 1 (.slice (some ⟨g, 0, none⟩) (8 + ln + j) cp) (8 + ln + j) (ints (S0 ++ (lens L).take j))) ∧ Hid (Below WB.heap.size WB wr)) (fun _ si _ => ln - (intOf si).toNat)
  case atStart => exact ⟨0, g2, cap2, Nat.zero_le _, rfl, rfl, by simpa [Hid] using HO4.out, HB4⟩
  case round =>
    obtain ⟨j, gv, cv, hj, rfl, rfl, Ho, Hb⟩ := hrel
    obtain ⟨z0, z1, z2, z3, zz⟩ := blk4 ((Hb.out.block zb hzb).trans HZB.out)
    have hbw : Below w.heap.size w wr := HWB.out.trans (Hb.out.mono HWB.out.size)
    have hp9 := (hbw.block p hpz).trans HPB.out
    obtain ⟨c0, c1, c2, c3, c4, c5, c6, cz⟩ := blk7 hp9
    have hsz9 := Hb.out.size
    by_cases hlt : j < ln
    · have g1' : decide ((j : Int) < (ln : Int)) = true := decide_eq_true (by omega)
      have g2' : decide ((j : Int) < 29) = true := decide_eq_true (by omega)
      have HL1 := hid (HLV.out wr hbw j hlt)
      have HLT := hid (lens_take (L := L) (j := j) (by rw [HLN0.out]; exact hlt))
      generalize (L.getD j Lvl.none).items = its at *
      have HBW := hid hbw
      clear hbw hp9
      go_upto_region 10 with (go_at_call 34; refine HL1.out.mono ?_; rintro e w5 ⟨rfl, hI5, hb5⟩)
      have ho5 := ownsRow_below Ho.out hb5 (fun g e => ownsRow_lt Ho.out e)
      have hb6 : Below WB.heap.size WB w5 := Hb.out.trans (hb5.mono Hb.out.size)
      have HO5 := hid ho5
      have HB6 := hid hb6
      have hsz6 := hb6.size
      clear hI5 hb5 ho5 hb6 Ho HL1 z0 z1 z2 z3 zz c0 c1 c2 c3 c4 c5 c6 cz
      go_wp2_with (first | (at_builtin; refine wpList_append_lies _ rfl (.tmp 72) (.tmp 75) 42 rfl WB.heap.size 3 i0 (.int .i64 0) 1 8 Try.underlying42 hi0 hz0 hz1 hz2 rfl (by decide) (.slice (some ⟨gv, 0, none⟩) (8 + ln + j) cv) (8 + ln + j) (ints (S0 ++ (lens L).take j)) rfl (HO5.out.alloc _) ⟨w5.heap.size, 0, none⟩ 1 1 [.int .i64 (its.length : Int)] rfl rfl (one_new _ _ _) (one_cell _ _) (by decide) (by unfold maxLen; omega) (by omega) (by simp; omega) (w5.heap.size + 1) (by simp) ?_; intro g7 cap7 w7 hown7 hgrow7 hat7 hlt7; have HO7 := hid hown7; have hb7 : Below WB.heap.size WB w7 := (HB6.out.alloc HB6.out.size _).grown hgrow7 (by simp; omega) (fun k h => (HO5.out.lt _ h).1); have HB7 := hid hb7; clear hown7 hgrow7 hat7 hb7))
      go_roundw
      case rel =>
        refine ⟨j + 1, g7, cap7, by omega, by go_num, rfl, ?_, HB7⟩
        have h9 := HO7.out
        rw [ints_snoc, List.append_assoc, ← HLT.out] at h9
        exact h9
      case measure => simp [intOf]; omega
    · obtain rfl : j = ln := by omega
      have g1' : decide ((j : Int) < (j : Int)) = false := decide_eq_false (by omega)
      have HBW := hid hbw
      clear hbw hp9
      go_wp2_with fail
      go_ret
      refine ⟨_, rfl, ?_, HBW.out⟩
      have h9 := Ho.out
      rw [show (lens L).take j = lens L from List.take_of_length_le (by simp [lens]; rw [HLN0.out]; exact Nat.le_refl _)] at h9
      have h8 := Ints.of h9
      unfold shapeOf
      rw [HLN0.out, HS0.out]
      exact h8

end Go.Proofs.Ytklicjbpjigfdaa

/- DERIVED. The walk of the statement Shape: it returns true, and nothing that was there has turned. -/
namespace Go.Proofs.Ytklicjbpjigfdaa
open Go.RowKit
variable {K : Nat → Prop} {w0 : World}

/-- A block of the call's own is of neither world. -/
theorem Two.own1 {w w2 : World} {pA dA pB dB : Nat} {psA psB : Nat → Nat} {WA WB : Wd} (h : Two K w0 w pA dA psA WA pB dB psB WB) (hb : Below w.heap.size w w2) (hg : w.heap.size < w2.heap.size) : Two (fun b => K b ∨ b = w.heap.size) w2 w2 pA dA psA WA pB dB psB WB := by
  obtain ⟨oA, a1, a2, a3, oB, b1, b2, b3, hA, hB, hd, hk, hK⟩ := h
  refine ⟨oA, a1, a2, a3, oB, b1, b2, b3, hA.below hb, hB.below hb, hd, fun b e => ?_, Keeps.refl _ _⟩
  rcases e with e | rfl
  · exact ⟨(hk b e).1, (hk b e).2.1, Nat.lt_of_lt_of_le (hk b e).2.2 (Nat.le_trans hK.size hb.size)⟩
  · exact ⟨Decidable.byContradiction fun hn => by have := hA.lt _ hn; omega, Decidable.byContradiction fun hn => by have := hB.lt _ hn; omega, hg⟩
theorem Two.back {w2 w' : World} {g pA dA pB dB : Nat} {psA psB : Nat → Nat} {WA WB : Wd} (h : Two (fun b => K b ∨ b = g) w2 w' pA dA psA WA pB dB psB WB) (hk : Keeps K w0 w2) (hK : ∀ b, K b → b < w0.heap.size) : Two K w0 w' pA dA psA WA pB dB psB WB := by
  obtain ⟨oA, a1, a2, a3, oB, b1, b2, b3, hA, hB, hd, hk2, hK2⟩ := h
  exact ⟨oA, a1, a2, a3, oB, b1, b2, b3, hA, hB, hd, fun b e => ⟨(hk2 b (.inl e)).1, (hk2 b (.inl e)).2.1, hK b e⟩, ⟨hK2.os.trans hk.os, hK2.tape.trans hk.tape, hK2.output.trans hk.output, Nat.le_trans hk.size hK2.size, fun b e => (hK2.block b (.inl e)).trans (hk.block b e)⟩⟩
theorem Two.rebase {w : World} {pA dA pB dB : Nat} {psA psB : Nat → Nat} {WA WB : Wd} (h : Two K w0 w pA dA psA WA pB dB psB WB) : Two K w w pA dA psA WA pB dB psB WB := by
  obtain ⟨oA, a1, a2, a3, oB, b1, b2, b3, hA, hB, hd, hk, hK⟩ := h
  exact ⟨oA, a1, a2, a3, oB, b1, b2, b3, hA, hB, hd, fun b e => ⟨(hk b e).1, (hk b e).2.1, Nat.lt_of_lt_of_le (hk b e).2.2 hK.size⟩, Keeps.refl _ _⟩
theorem Keeps.sub {K K' : Nat → Prop} {w0 w2 w' : World} (hk : Keeps K w0 w2) (h : Keeps K' w2 w') (hs : ∀ b, K b → K' b) : Keeps K w0 w' :=
  ⟨h.os.trans hk.os, h.tape.trans hk.tape, h.output.trans hk.output, Nat.le_trans hk.size h.size, fun b e => (h.block b (hs b e)).trans (hk.block b e)⟩
/-- The block of the call's own turns. -/
theorem Two.poke {w2 w : World} {g i pA dA pB dB : Nat} {psA psB : Nat → Nat} {WA WB : Wd} (v : Value) (h : Two (fun b => K b ∨ b = g) w2 w pA dA psA WA pB dB psB WB) (hk : Keeps K w0 w) (hg : ¬ K g) : Two (fun b => K b ∨ b = g) (w.setCell ⟨g, i, none⟩ v) (w.setCell ⟨g, i, none⟩ v) pA dA psA WA pB dB psB WB ∧ Keeps K w0 (w.setCell ⟨g, i, none⟩ v) := by
  obtain ⟨oA, a1, a2, a3, oB, b1, b2, b3, hA, hB, hd, hk2, hK2⟩ := h
  have g1 := hk2 g (.inr rfl)
  have hs : (w.setCell ⟨g, i, none⟩ v).heap.size = w.heap.size := setCell_size _ _ _
  refine ⟨⟨oA, a1, a2, a3, oB, b1, b2, b3, hA.keep (Nat.le_of_eq hs.symm) (fun b e => Below.heap_setCell _ _ _ _ (fun e2 => e (by rw [e2]; exact g1.1))), hB.keep (Nat.le_of_eq hs.symm) (fun b e => Below.heap_setCell _ _ _ _ (fun e2 => e (by rw [e2]; exact g1.2.1))), hd, fun b e => ⟨(hk2 b e).1, (hk2 b e).2.1, ?_⟩, Keeps.refl _ _⟩, ?_⟩
  · rw [hs]; exact Nat.lt_of_lt_of_le (hk2 b e).2.2 hK2.size
  · exact ⟨hk.os, hk.tape, hk.output, by rw [hs]; exact hk.size, fun b e => (Below.heap_setCell _ _ _ _ (fun e2 => hg (by have e3 : b = g := e2; rw [← e3]; exact e))).trans (hk.block b e)⟩
theorem Two.used {w : World} {pA dA pB dB : Nat} {psA psB : Nat → Nat} {WA WB : Wd} (h : Two K w0 w pA dA psA WA pB dB psB WB) : w.cell? ⟨pA, 4, none⟩ = some (.int .i64 (WA.used : Int)) ∧ w.cell? ⟨pB, 4, none⟩ = some (.int .i64 (WB.used : Int)) := by
  obtain ⟨oA, a1, a2, a3, oB, b1, b2, b3, hA, hB, _⟩ := h
  exact ⟨(blk7 hA.blk).2.2.2.2.1, (blk7 hB.blk).2.2.2.2.1⟩

theorem shapeOf_len (k : Nat) (L : List Lvl) : (shapeOf k L).length = 8 + L.length + L.length := by simp [shapeOf, lens, timesOf]; omega
theorem first_alike (k : Int) (c1 c2 : ByteArray) : Alike (Wd.first k c1 3) (Wd.first k c2 3) := ⟨rfl, fun _ _ => rfl, fun _ _ => rfl⟩

abbrev stBox (kd a b c : Int) : Obj := .cells #[.int .i64 kd, .int .i64 a, .int .i64 b, .int .i64 c] 29 (0, 0)

set_option maxHeartbeats 4000000 in
set_option maxRecDepth 100000 in
theorem shape_walk (k : Int) (coins other : ByteArray) (ao : Option Addr) (n cap : Nat) (ss : List St) (xo : Option Addr) (m xcap : Nat) (xl : List Int) (w : World) (hk1 : -9223372036854775808 ≤ k) (hk2 : k ≤ 9223372036854775807) (hcs : coins.size ≤ 140737488355328) (hco : other.size ≤ 140737488355328) (hl : ss.length = n) (hr : n * 32 ≤ 140737488351232) (hrg : ∀ s ∈ ss, InRange s.a ∧ InRange s.b ∧ InRange s.c)
    (hc : ∀ i, i < n → ∃ b off, ao = some ⟨b, off, none⟩ ∧ b < w.heap.size ∧ w.cell? ⟨b, off + i * 4, none⟩ = some (.int .i64 (ss.getD i St.zero).kd) ∧ w.cell? ⟨b, off + i * 4 + 1, none⟩ = some (.int .i64 (ss.getD i St.zero).a) ∧ w.cell? ⟨b, off + i * 4 + 2, none⟩ = some (.int .i64 (ss.getD i St.zero).b) ∧ w.cell? ⟨b, off + i * 4 + 3, none⟩ = some (.int .i64 (ss.getD i St.zero).c))
    (hm : m ≤ 140737488351232) (hx : ∀ i, i < m → ∃ b off, xo = some ⟨b, off, none⟩ ∧ b < w.heap.size ∧ w.cell? ⟨b, off + i, none⟩ = some (.int .i64 (xl.getD i 0)) ∧ InRange (xl.getD i 0)) :
    Calls Try.prog 10 #[.int .i64 k, .string coins, .string other, .slice ao n cap, .slice xo m xcap] w fun e w' => e = .returned (.bool true) ∧ Below w.heap.size w w' := by
  have HB := hid (begin_w k coins w hk1 hk2)
  have HBO := hid (fun w' => begin_w k other w' hk1 hk2)
  have HC := hid hc
  have HX := hid hx
  have HI1 := hid (first_minv k coins hcs)
  have HI2 := hid (first_minv k other hco)
  have HAL := hid (first_alike k coins other)
  have HRG := hid hrg
  have HL := hid hl
  clear hc hrg hl hx
  go_enter Try.func10, Try.ntmps10
  go_wp2_with fail
  refine HB.out.mono ?_
  rintro e w1 ⟨pA, dA, psA, rfl, hst1⟩
  have HST1 := hid hst1
  clear hst1 HB
  go_wp2_with fail
  refine (HBO.out _).mono ?_
  rintro e w2 ⟨pB, dB, psB, rfl, hst2⟩
  have HTW := hid (Two.begun HST1.out hst2)
  clear hst2 HBO HST1
  go_wp2_with fail
  go_loopw [13] (fun si wr => ∃ (i : Nat) (WA WB : Wd), i ≤ n ∧ si = .int .i64 i ∧ Hid (MInv WA) ∧ Hid (MInv WB) ∧ Hid (Alike WA WB) ∧ Hid (Two (fun b => b < w.heap.size) w wr pA dA psA WA pB dB psB WB)) (fun si _ => n - (intOf si).toNat)
  case atStart => exact ⟨0, _, _, Nat.zero_le _, rfl, HI1, HI2, HAL, HTW⟩
  case round =>
    obtain ⟨i, WA, WB, hi, rfl, HA, HBi, Hal, Htw⟩ := hrel
    clear HI1 HI2 HAL HTW
    by_cases hil : i < n
    · have hil' : i < ss.length := by rw [HL.out]; exact hil
      obtain ⟨bs, off, rfl, hbz, q0, q1, q2, q3⟩ := HC.out i hil
      have hke := Htw.out.keeps
      have hbk : ∀ o, wr.cell? ⟨bs, o, none⟩ = w.cell? ⟨bs, o, none⟩ := fun o => World.cell?_of_block (hke.block bs hbz)
      rw [← hbk] at q0 q1 q2 q3
      have hmem : ss.getD i St.zero ∈ ss := by simp [List.getD, hil']
      have hg := HRG.out _ hmem
      generalize ss.getD i St.zero = st at *
      have hbz2 : bs < wr.heap.size := Nat.lt_of_lt_of_le hbz hke.size
      have hbA : Below wr.heap.size wr (wr.alloc (stBox st.kd st.a st.b st.c)) := (Below.refl _ _).alloc (Nat.le_refl _) _
      have hT1 := Htw.out.own1 hbA (by simp)
      have hK1 : Keeps (fun b => b < w.heap.size) w (wr.alloc (stBox st.kd st.a st.b st.c)) := hke.below hbA (fun b e => e)
      have hX1 : (wr.alloc (stBox st.kd st.a st.b st.c)).heap[wr.heap.size]? = some (stBox st.kd st.a st.b st.c) := heap_alloc_new _ _
      have hgl : w.heap.size ≤ wr.heap.size := hke.size
      obtain ⟨K', hop, hcl⟩ := hT1.opened
      have HSP := hid (step_rel pA dA st.kd st.a st.b st.c psA WA _ hop HA.out hg.1 hg.2.1 hg.2.2)
      have HCL := hid hcl
      have HK1 := hid hK1
      have HX1 := hid hX1
      have HGR := hid hg
      clear hmem hg hbk hke hbA hT1 hK1 hX1 hop hcl
      go_upto_region 9 with fail
      generalize wr.alloc (stBox st.kd st.a st.b st.c) = wb at *
      generalize wr.heap.size = lb at *
      obtain ⟨x0, x1, x2, x3, xz⟩ := blk4 HX1.out
      clear q0 q1 q2 q3
      go_upto_if 49 with (go_at_call 14; refine HSP.out.mono ?_; rintro e wc ⟨rfl, WA', hstA, hrelA⟩; have hT2 := HCL.out _ _ hstA; have hX2 := (hT2.keeps.block lb (.inr rfl)).trans HX1.out; obtain ⟨y0, y1, y2, y3, yz⟩ := blk4 hX2; have HT2 := hid hT2; have HX2 := hid hX2; have HRA := hid hrelA; clear hT2 hX2 hstA hrelA)
      have hnl : ¬ (lb < w.heap.size) := by omega
      have hk2' : Keeps (fun b => b < w.heap.size) w wc := HK1.out.sub HT2.out.keeps (fun b e => .inl e)
      have HK2 := hid hk2'
      have hlbz : lb < wc.heap.size := lt_of_blk' HX2.out
      clear hk2' x0 x1 x2 x3 xz HSP HCL
      go_cut [] from 34 to 103 (fun wd => ∃ bv, Two (fun b => b < w.heap.size ∨ b = lb) wd wd pA dA psA WA' pB dB psB WB ∧ Keeps (fun b => b < w.heap.size) w wd ∧ wd.heap[lb]? = some (stBox st.kd st.a bv st.c) ∧ (st.kd = 1 → bv = st.b) ∧ InRange bv)
      case first =>
        by_cases hkd : st.kd = 1
        · have hkd' : (st.kd != 1) = false := by simp [hkd]
          have HKD := hid hkd
          clear hkd
          go_wp2_with fail
          go_meet
          exact ⟨st.b, HT2.out.rebase, HK2.out, HX2.out, fun _ => rfl, HGR.out.2.1⟩
        · have hkd' : (st.kd != 1) = true := by simpa using hkd
          have HKD := hid hkd
          clear hkd
          obtain ⟨hP1, hP1k⟩ := HT2.out.poke (i := 2) (.int .i64 0) HK2.out hnl
          have hP1x := blk_set (i := 2) (.int .i64 0) HX2.out
          have HP1 := hid hP1
          have HP1K := hid hP1k
          have HP1X : Hid ((wc.setCell ⟨lb, 2, none⟩ (.int .i64 0)).heap[lb]? = some (stBox st.kd st.a 0 st.c)) := by simpa [Hid] using hP1x
          clear hP1 hP1k hP1x
          by_cases hm0 : m = 0
          · subst hm0
            go_wp2_with fail
            go_meet
            exact ⟨0, HP1.out, HP1K.out, HP1X.out, fun h => absurd h HKD.out, ⟨by decide, by decide⟩⟩
          · have hlt9 : i % m < m := Nat.mod_lt _ (by omega)
            obtain ⟨bx, ox, rfl, hbx, hxc, hxr⟩ := HX.out (i % m) hlt9
            have hxc' : wc.cell? ⟨bx, ox + i % m, none⟩ = some (.int .i64 (xl.getD (i % m) 0)) := by rw [World.cell?_of_block (HK2.out.block bx hbx)]; exact hxc
            have hbxl : bx ≠ lb := by omega
            have hbxz : bx < wc.heap.size := Nat.lt_of_lt_of_le hbx HK2.out.size
            have h5 : (0 : Int) ≤ (i : Int) % (m : Int) := by omega
            have h6 : (i : Int) % (m : Int) < (m : Int) := by omega
            have h7 : ((m : Int) == 0) = false := by simpa using hm0
            have h8 : ((i : Int) % (m : Int)).toNat = i % m := by omega
            have hz : (m : Int) ≠ 0 := by omega
            have hmp : (0 : Int) < (m : Int) := by omega
            obtain ⟨hP2, hP2k⟩ := HP1.out.poke (i := 2) (.int .i64 (xl.getD (i % m) 0)) HP1K.out hnl
            have hP2x := blk_set (i := 2) (.int .i64 (xl.getD (i % m) 0)) HP1X.out
            generalize xl.getD (i % m) 0 = xv at *
            have HP2 := hid hP2
            have HP2K := hid hP2k
            have HP2X : Hid (((wc.setCell ⟨lb, 2, none⟩ (.int .i64 0)).setCell ⟨lb, 2, none⟩ (.int .i64 xv)).heap[lb]? = some (stBox st.kd st.a xv st.c)) := by simpa [Hid] using hP2x
            have HXR := hid hxr
            clear hP2 hP2k hP2x hxc hxr hm0
            go_wp2_with fail
            go_meet
            exact ⟨xv, HP2.out, HP2K.out, HP2X.out, fun h => absurd h HKD.out, HXR.out⟩
      case rest =>
        obtain ⟨bv, hT3, hK3, hX3, hbv, hrb⟩ := hcut
        rename World => wd
        obtain ⟨K2, hop2, hcl2⟩ := hT3.swap.opened
        have HSPB := hid (step_rel pB dB st.kd st.a bv st.c psB WB wd hop2 HBi.out HGR.out.1 hrb HGR.out.2.2)
        have HCL2 := hid hcl2
        have HK3 := hid hK3
        have HBV := hid hbv
        obtain ⟨x0, x1, x2, x3, xz⟩ := blk4 hX3
        clear hT3 hK3 hX3 hbv hop2 hcl2 HT2 HX2 HK2 y0 y1 y2 y3 yz HK1 HX1 hlbz
        go_upto_region 15 with (go_at_call 14; refine HSPB.out.mono ?_; rintro e we ⟨rfl, WB', hstB, hrelB⟩; have hT5 := ((HCL2.out _ _ hstB).swap).back HK3.out (fun b e => e); have HT5 := hid hT5; have HAL' := hid (Hal.out.step HA.out HBi.out HBV.out HRA.out hrelB); have HIA := hid (HRA.out.inv HA.out); have HIB := hid (hrelB.inv HBi.out); have hus := hT5.used; clear hT5 hstB hrelB)
        obtain ⟨us1, us2⟩ := hus
        have hsm := HIA.out.small
        have hue : ((WA'.used : Int) != (WB'.used : Int)) = false := by rw [HAL'.out.used]; simp
        clear HSPB HCL2 x0 x1 x2 x3 xz HK3 HA HBi Hal HRA HBV Htw
        go_quiet (fail)
        go_wp2_with fail
        have HTD : Hid (Two (fun b => b < w.heap.size) w (we.drewN nq) pA dA psA WA' pB dB psB WB') := HT5.out.below ⟨rfl, rfl, rfl, Nat.le_refl _, fun _ _ => rfl⟩
        generalize we.drewN nq = wf at *
        clear us1 us2 HT5
        go_loopw [17] (fun sj wr2 => ∃ j : Nat, j ≤ 3 ∧ sj = .int .i64 j ∧ Hid (Below wf.heap.size wf wr2)) (fun sj _ => 3 - (intOf sj).toNat)
        case atStart => exact ⟨0, Nat.zero_le _, rfl, Below.refl _ _⟩
        case round =>
          obtain ⟨j, hj, rfl, Hb2⟩ := hrel
          have hT6 := HTD.out.below Hb2.out
          by_cases hj3 : j < 3
          · have HSA := hid (shape_any pA dA j psA WA' _ hT6.left hj3 HIA.out.len (HIA.out.came j hj3) (HIA.out.roomy j hj3))
            have HSB := hid (fun (w' : World) (hb : Below wf.heap.size wf w') => shape_any pB dB j psB WB' w' (HTD.out.below hb).swap.left hj3 HIB.out.len (HIB.out.came j hj3) (HIB.out.roomy j hj3))
            have HKE := hid (fun (w' : World) (hb : Below wf.heap.size wf w') => kept_any pA dA j psA WA' w' (HTD.out.below hb).left hj3 HIA.out.len (HIA.out.came j hj3))
            have hSE : shapeOf (WB'.D.sks.getD j Hd.none).sk.k (WB'.D.sks.getD j Hd.none).sk.lv = shapeOf (WA'.D.sks.getD j Hd.none).sk.k (WA'.D.sks.getD j Hd.none).sk.lv := by rw [← HAL'.out.k j hj3]; exact (shapeOf_sh (HAL'.out.lv j hj3)).symm
            rw [hSE] at HSB
            have hsl : (shapeOf (WA'.D.sks.getD j Hd.none).sk.k (WA'.D.sks.getD j Hd.none).sk.lv).length ≤ 1099511627776 := by
              have := (HIA.out.came j hj3).inok.ok.len
              rw [shapeOf_len]; omega
            generalize shapeOf (WA'.D.sks.getD j Hd.none).sk.k (WA'.D.sks.getD j Hd.none).sk.lv = S at *
            clear hT6 hSE
            go_wp2_with fail
            refine HSA.out.mono ?_
            rintro e w7 ⟨v7, rfl, hI7, hb7⟩
            have hb7' : Below wf.heap.size wf w7 := Hb2.out.trans (hb7.mono Hb2.out.size)
            have HB7 := hid hb7'
            have HI7 := hid hI7
            clear hb7 hb7' hI7 HSA
            go_wp2_with fail
            refine (HSB.out _ HB7.out).mono ?_
            rintro e w8 ⟨v8, rfl, hI8, hb8⟩
            have hb8' : Below wf.heap.size wf w8 := HB7.out.trans (hb8.mono HB7.out.size)
            have HB8 := hid hb8'
            have HSI := hid (sameInts_any v7 v8 S w8 (HI7.out.below hb8) hI8 hsl)
            clear hb8 hb8' hI8 HSB HI7
            go_wp2_with fail
            refine HSI.out.mono ?_
            rintro e w9 ⟨rfl, hb9⟩
            have hb9' : Below wf.heap.size wf w9 := HB8.out.trans (hb9.mono HB8.out.size)
            have HB9 := hid hb9'
            clear hb9 hb9' HSI
            go_wp2_with fail
            refine (HKE.out _ HB9.out).mono ?_
            rintro e w10 ⟨rfl, hb10⟩
            have HB10 : Hid (Below wf.heap.size wf w10) := HB9.out.trans (hb10.mono HB9.out.size)
            clear hb10 HKE
            go_wp2_with fail
            go_roundw
            case rel => exact ⟨j + 1, by omega, by go_num, HB10⟩
            case measure => simp [intOf]; omega
          · have HT6 := hid hT6
            clear hT6
            go_wp2_with fail
            go_roundw
            case rel => exact ⟨i + 1, WA', WB', by omega, by go_num, HIA, HIB, HAL', HT6⟩
            case measure => simp [intOf]; omega
    · go_wp2_with fail
      go_ret
      have hk := Htw.out.keeps
      exact ⟨rfl, ⟨hk.os, hk.tape, hk.output, hk.size, fun b hb => hk.block b hb⟩⟩

end Go.Proofs.Ytklicjbpjigfdaa
