/- DERIVED. The walk of box; a delivery whatever it brings. -/
import Derived.Test.YtklicjbpjigfdabNi
import Derived.Test.YtklicjbpjigfdabNb
import Derived.Test.YtklicjbpjigfdabMw
import Derived.Test.YtklicjbpjigfdabMh
namespace Go.Proofs.Ytklicjbpjigfdab
open Go.RowKit
attribute [local go_sem ↓] Go.wp_at_zero Go.wp_at_succ
variable {K : Nat → Prop} {w0 : World}

theorem delivered_any {B : Bx} {p d : Nat} {ps : Nat → Nat} {W : Wd} {T : Nat → ByteArray} {a n : Nat} {tk : Nat → Bool} {w : World} (kd A Bb C q : Int) (h : BxSt K w0 w B p d ps W T a n tk) (ho : OInv W T a n tk) (hK : ¬ K B.gk) (ha : a < 255) (hA : InRange A) (hB : InRange Bb) (hC : InRange C) :
    Calls Try.prog 23 #[.pointer (some ⟨B.bb, 0, none⟩), .agg #[.int .i64 kd, .int .i64 A, .int .i64 Bb, .int .i64 C], .int .i64 q] w fun e w' => e = .returned (.bool true) ∧ ∃ W' tk', BxSt K w0 w' B p d ps W' T a n tk' ∧ OInv W' T a n tk' := by
  by_cases hkd : kd = 2
  · cases htk : tk (pickN A 3) with
    | true => exact (deliver_twice_b kd A Bb C q h ho ha hA hkd hB hC htk).mono (fun _ _ h => ⟨h.1, W, tk, h.2, ho⟩)
    | false => exact (deliver_bad kd A Bb C q h ho ha hA hkd hB hC htk).mono (fun _ _ h => ⟨h.1, W, tk, h.2, ho⟩)
  · cases htk : tk (pickN A 3) with
    | true => exact (deliver_twice_a kd A Bb C q h ho ha hA hkd htk).mono (fun _ _ h => ⟨h.1, W, tk, h.2, ho⟩)
    | false => exact deliver_in kd A Bb C q h ho ha hA hK hkd htk

theorem pick62_any (c : Int) (w : World) (h1 : -9223372036854775808 ≤ c) (h2 : c ≤ 9223372036854775807) :
    Calls Try.prog 9 #[.int .i64 c, .int .i64 4611686018427387904] w fun e w' => e = .returned (.int .i64 (pickN c 4611686018427387904 : Int)) ∧ w' = w := by
  have HP := hid (pickN_cast c (n := 4611686018427387904) (by omega))
  by_cases h0 : c < 0
  · rw [if_pos h0] at HP
    go_enter Try.func9, Try.ntmps9
    go_wp2
    go_ret
    exact ⟨ret_int (by rw [HP.out, ← Int.neg_tmod, Int.tmod_eq_emod_of_nonneg (by omega)]; rfl), rfl⟩
  · rw [if_neg h0] at HP
    go_enter Try.func9, Try.ntmps9
    go_wp2
    go_ret
    exact ⟨ret_int (by rw [HP.out]; rfl), rfl⟩

def strs (T : Nat → ByteArray) (r : Nat) : List Value := (List.range r).map (fun i => .string (T i))
theorem strs_succ (T : Nat → ByteArray) (r : Nat) : strs T (r + 1) = strs T r ++ [.string (T r)] := by simp [strs, List.range_succ]
theorem strs_length (T : Nat → ByteArray) (r : Nat) : (strs T r).length = r := by simp [strs]
theorem strs_at (T : Nat → ByteArray) {r i : Nat} (h : i < r) : (strs T r)[i]? = some (.string (T i)) := by simp [strs, h]

/-- The box while its texts are written. -/
structure BxMk (w1 wr : World) (B : Bx) (p a n : Nat) (vt : Value) (r : Nat) (T : Nat → ByteArray) : Prop where
  bel : Below w1.heap.size w1 wr
  blk : wr.heap[B.bb]? = some (.cells #[.pointer (some ⟨p, 0, none⟩), vt, .slice (some ⟨B.ga, 0, none⟩) 3 3, .slice (some ⟨B.gn, 0, none⟩) 3 3, .slice (some ⟨B.gk, 0, none⟩) 3 3] 115 (0, 0))
  snd : wr.heap[B.ga]? = some (.cells #[.int .i64 (a : Int), .int .i64 (a : Int), .int .i64 ((a + 1 : Nat) : Int)] 3 (0, 0))
  seq : wr.heap[B.gn]? = some (.cells #[.int .i64 (n : Int), .int .i64 ((n + 1 : Nat) : Int), .int .i64 (n : Int)] 3 (0, 0))
  tkn : wr.heap[B.gk]? = some (.cells #[.bool false, .bool false, .bool false] 4 (0, 0))
  row : wr.ownsRow w1.heap.size 9 1 vt r (strs T r)
  zb : w1.heap.size ≤ B.bb
  za : w1.heap.size ≤ B.ga
  zn : w1.heap.size ≤ B.gn
  zk : w1.heap.size ≤ B.gk
theorem BxMk.below {w1 wr w' : World} {B : Bx} {p a n r : Nat} {vt : Value} {T : Nat → ByteArray} (h : BxMk w1 wr B p a n vt r T) (hb : Below wr.heap.size wr w') : BxMk w1 w' B p a n vt r T :=
  ⟨h.bel.trans (hb.mono h.bel.size), (hb.block _ (lt_of_blk' h.blk)).trans h.blk, (hb.block _ (lt_of_blk' h.snd)).trans h.snd, (hb.block _ (lt_of_blk' h.seq)).trans h.seq, (hb.block _ (lt_of_blk' h.tkn)).trans h.tkn, ownsRow_below h.row hb (fun _ e => ownsRow_lt h.row e), h.zb, h.za, h.zn, h.zk⟩
/-- A text more. -/
theorem BxMk.more {w1 wr wx w5 : World} {B : Bx} {p a n r g5 cap5 : Nat} {vt : Value} {T : Nat → ByteArray} (h : BxMk w1 wr B p a n vt r T) (hx : Below wr.heap.size wr wx) (hown : w5.ownsRow w1.heap.size 9 1 (.slice (some ⟨g5, 0, none⟩) (r + 1) cap5) (r + 1) (strs T r ++ [.string (T r)])) (hgrow : wx.grownBy w5 vt.ownBlock) :
    BxMk w1 (w5.setCell ⟨B.bb, 1, none⟩ (.slice (some ⟨g5, 0, none⟩) (r + 1) cap5)) B p a n (.slice (some ⟨g5, 0, none⟩) (r + 1) cap5) (r + 1) T := by
  have hkeep : ∀ (b : Nat) (c : Array Value) (t : TypeId) (fr : Nat × Nat), wr.heap[b]? = some (.cells c t fr) → t ≠ 9 → w5.heap[b]? = wr.heap[b]? := by
    intro b c t fr hb ht
    have hz := lt_of_blk' hb
    rw [hgrow.block b (Nat.lt_of_lt_of_le hz hx.size) (fun e => ?_), hx.block b hz]
    obtain ⟨c', hc'⟩ := ownsRow_blk h.row e.symm
    rw [hc'] at hb; cases hb; exact ht rfl
  have hq := (hkeep _ _ _ _ h.blk (by decide)).trans h.blk
  have hk2 : ∀ (b : Nat) (c : Array Value) (t : TypeId) (fr : Nat × Nat), wr.heap[b]? = some (.cells c t fr) → t ≠ 9 → t ≠ 115 → (w5.setCell ⟨B.bb, 1, none⟩ (.slice (some ⟨g5, 0, none⟩) (r + 1) cap5)).heap[b]? = wr.heap[b]? := by
    intro b c t fr hb h1 h2
    rw [Below.heap_setCell _ _ _ _ (fun e => ?_), hkeep b c t fr hb h1]
    subst e
    rw [h.blk] at hb; cases hb; exact h2 rfl
  have hz5 : wr.heap.size ≤ w5.heap.size := Nat.le_trans hx.size hgrow.size
  refine ⟨?_, ?_, (hk2 _ _ _ _ h.snd (by decide) (by decide)).trans h.snd, (hk2 _ _ _ _ h.seq (by decide) (by decide)).trans h.seq, (hk2 _ _ _ _ h.tkn (by decide) (by decide)).trans h.tkn, ?_, h.zb, h.za, h.zn, h.zk⟩
  · have hb5 : Below w1.heap.size w1 w5 := ⟨hgrow.os.trans (hx.os.trans h.bel.os), hgrow.tape.trans (hx.tape.trans h.bel.tape), hgrow.output.trans (hx.output.trans h.bel.output), Nat.le_trans h.bel.size hz5, fun b hb => by
      rw [hgrow.block b (by have := h.bel.size; have := hx.size; omega) (fun e => ?_), hx.block b (by have := h.bel.size; omega), h.bel.block b hb]
      have := (h.row.lt b e.symm).1
      omega⟩
    exact ⟨hb5.os, hb5.tape, hb5.output, by rw [setCell_size]; exact hb5.size, fun b hb => by rw [Below.heap_setCell _ _ _ _ (show b ≠ B.bb by have := h.zb; omega)]; exact hb5.block b hb⟩
  · have := blk_set (i := 1) (.slice (some ⟨g5, 0, none⟩) (r + 1) cap5) hq
    simpa using this
  · rw [strs_succ]
    refine ownsRow_block hown (fun b e => Below.heap_setCell _ _ _ _ (fun e2 => ?_))
    obtain ⟨c', hc'⟩ := ownsRow_blk hown e
    rw [e2, hq] at hc'; cases hc'

theorem Try.infoStr : (Try.prog.info? 9).map (fun i => (i.zero, i.size, i.bytes)) = some (some (.string ByteArray.empty), 1, 16) := by kernel_rfl

theorem one_str (t : ByteArray) : ∀ u ∈ [Value.string t], u.oneCell' = true := by
  intro u hu
  simp at hu
  subst hu
  rfl
theorem one_strnew {w : World} {H : Nat} (hH : w.heap.size = H) (t : ByteArray) (e : TypeId) : ∀ j u, [Value.string t][j]? = some u → (w.alloc (.cells #[.string t] e)).cell? ((⟨H, 0, none⟩ : Addr).add j) = some u := by
  subst hH
  intro j u hu
  match j, hu with
  | 0, hu => simp at hu; subst hu; simp [Addr.add]

/-- A row that is full is its whole block. -/
theorem ownsRow_full {w : World} {b g n : Nat} {e : TypeId} {xs : List Value} (h : w.ownsRow b e 1 (.slice (some ⟨g, 0, none⟩) n n) n xs) : w.heap[g]? = some (.cells xs.toArray e (0, 0)) := by
  rcases h.2 with ⟨e', _⟩ | ⟨g', cap, cur, e', _, hh, _, _, hsz, ht⟩
  · cases e'
  · cases e'
    have : cur.toList = xs := by rw [← ht, List.take_of_length_le]; simp [hsz]
    rw [hh, ← this]
theorem opened_at {W : Wd} {k r : Nat} (hl : W.D.sks.length = 3) (hr : r < 3) : (W.opened 3 k).D.sks.getD r Hd.none = W.D.sks.getD r Hd.none := by
  show (W.D.sks ++ [_]).getD r Hd.none = _
  simp [List.getD, List.getElem?_append, hl, hr]
theorem opened_at3 {W : Wd} {k : Nat} (hl : W.D.sks.length = 3) : (W.opened 3 k).D.sks.getD 3 Hd.none = Hd.begun k := by
  show (W.D.sks ++ [_]).getD 3 Hd.none = _
  simp [List.getD, hl]
theorem WdSt.fresh {w w2 : World} {p d m : Nat} {ps : Nat → Nat} {W : Wd} (h : WdSt K w0 w p d m ps W) (hb : Below w.heap.size w w2) : WdSt (fun b => K b ∨ (w.heap.size ≤ b ∧ b < w2.heap.size)) w2 w2 p d m ps W ∧ Keeps K w0 w2 := by
  obtain ⟨own, vs, vx, vw, h, h2K, hk⟩ := h
  refine ⟨⟨own, vs, vx, vw, h.below hb, fun b hb' => ?_, Keeps.refl _ _⟩, hk.below hb (fun b e => (h2K b e).2)⟩
  rcases hb' with hb' | hb'
  · exact ⟨(h2K b hb').1, Nat.lt_of_lt_of_le (Nat.lt_of_lt_of_le (h2K b hb').2 hk.size) hb.size⟩
  · refine ⟨?_, hb'.2⟩
    by_cases e : own b = 0
    · exact e
    · have := h.lt b e; omega

set_option maxHeartbeats 2000000 in
set_option maxRecDepth 100000 in
theorem box_any (p d : Nat) (sd sq : Int) (ps : Nat → Nat) (W : Wd) (w : World) (h : WdSt K w0 w p d 3 ps W) (hm : MInv W) (hk : TInv W) (hroom : W.D.room = 4) (h1 : InRange sd) (h2 : InRange sq) (hK0 : ∀ b, K b → b < w0.heap.size) :
    Calls Try.prog 22 #[.pointer (some ⟨p, 0, none⟩), .int .i64 sd, .int .i64 sq] w fun e w' => ∃ B ps' W' T a n, e = .returned (.tuple #[.pointer (some ⟨B.bb, 0, none⟩), .bool true]) ∧ BxSt K w0 w' B p d ps' W' T a n (fun _ => false) ∧ OInv W' T a n (fun _ => false) ∧ a < 255 ∧ ¬ K B.gk := by
  have hc0 := hm.came 0 (by omega)
  have hkk := hc0.inok.ok
  have HO := hid (fun (w' : World) (hb : Below w.heap.size w w') => wopen_any p d 3 (W.sd 0).k ps W w' (h.below hb) (by omega) (by rw [hc0.k]; exact hkk.k1) (by rw [hc0.k]; exact hkk.k2) hm.len hroom)
  have HP1 := hid (fun (w' : World) => pick_any sd 255 w' h1.1 h1.2 (by omega) (by omega))
  have HP2 := hid (fun (w' : World) => pick62_any sq w' h2.1 h2.2)
  have ha := pickN_lt sd (n := 255) (by omega)
  have hn := pickN_lt sq (n := 4611686018427387904) (by omega)
  have HMO := hid (minv_opened (o := true) (k := (W.sd 0).k) hm (by rw [hc0.k]; exact hkk.k1) (by rw [hc0.k]; exact hkk.k2))
  obtain ⟨own, vs, vx, vw, hw, _⟩ := h
  obtain ⟨gs, cs0, evs, hptr⟩ := hw.ptr (i := 0) (by omega)
  obtain ⟨_, c1, _⟩ := blk7 hw.blk
  rw [evs] at c1
  have s0 := (blk6 (hw.side 0 (by omega)).blk).2.2.2.1
  have HLT := hid (fun r (hr : r < 3) => letter_of (hm.came r hr) (hm.roomy r hr) (hk r hr))
  have HOK := hid (fun r (hr : r < 3) => (hm.came r hr).inok.ok)
  have HLN := hid hm.len
  generalize pickN sd 255 = a at *
  generalize pickN sq 4611686018427387904 = n at *
  clear hw hm hk hc0 hkk hroom
  go_enter Try.func22, Try.ntmps22
  go_wp2_with fail
  refine (HO.out _ (Below.refl _ _)).mono ?_
  rintro e w1 ⟨rfl, ps', hst⟩
  have HST := hid hst
  have HK1 : Hid (∀ b, K b → b < w1.heap.size) := fun b hb => Nat.lt_of_lt_of_le (hK0 b hb) hst.keeps'.size
  clear hst HO c1 s0 hptr
  go_wp2_with fail
  refine (HP1.out _).mono ?_
  rintro e w' ⟨rfl, hw⟩
  obtain rfl := hw.symm
  clear hw HP1
  go_wp2_with fail
  refine (HP2.out _).mono ?_
  rintro e w' ⟨rfl, hw⟩
  obtain rfl := hw.symm
  clear hw HP2
  obtain ⟨j0, hj0, hy0, hy1, hy2⟩ := info_parts Try.infoBool
  obtain ⟨i0, hi0, hz0, hz1, hz2⟩ := info_parts Try.infoStr
  go_wp2_with (first | (at_make; refine wpList_make_full _ rfl _ _ 81 rfl w1.heap.size 4 j0 (.bool false) 1 Try.underlying81 hj0 hy0 hy1 _ _ _ _ 3 rfl rfl (by rfl) (by rfl) (by rw [hy2]; omega) (by unfold maxLen; omega) (by simp; omega) ?_; intro w2 hown2 hgrow2; have HOW2 := hid hown2; have HGR2 := hid hgrow2; clear hown2 hgrow2))
  have hz2' : w1.heap.size + 1 + 1 ≤ w2.heap.size := by have := HGR2.out.size; simp at this; omega
  have hmk : BxMk w1 (w2.alloc (.cells #[.pointer (some ⟨p, 0, none⟩), .slice none 0 0, .slice (some ⟨w1.heap.size, 0, none⟩) 3 3, .slice (some ⟨w1.heap.size + 1, 0, none⟩) 3 3, .slice (some ⟨w1.heap.size + 1 + 1, 0, none⟩) 3 3] 115)) ⟨w2.heap.size, 0, 0, w1.heap.size, w1.heap.size + 1, w1.heap.size + 1 + 1⟩ p a n (.slice none 0 0) 0 (fun r => txt (writeB (W.D.sks.getD r Hd.none).sk)) := by
    have hg := HGR2.out
    have ho := HOW2.out
    have hfull := ownsRow_full ho
    have hlt2 := lt_of_blk' hfull
    simp only [World.size_alloc] at hfull hlt2
    have em : (madeCells (Value.bool false).cells (3 * 1)).toList = [.bool false, .bool false, .bool false] := by
      simp only [madeCells, Array.toList_map, Array.toList_range]
      rfl
    rw [em] at hfull
    have hA0 : w2.heap[w1.heap.size]? = some (.cells #[.int .i64 (a : Int), .int .i64 (a : Int), .int .i64 ((a : Int) + 1)] 3 (0, 0)) := (hg.block w1.heap.size (by simp; omega) (fun e => by cases e)).trans ((Below.heap_alloc _ _ _ (by simp)).trans (heap_alloc_new w1 _))
    have hA1 : w2.heap[w1.heap.size + 1]? = some (.cells #[.int .i64 (n : Int), .int .i64 ((n : Int) + 1), .int .i64 (n : Int)] 3 (0, 0)) := (hg.block (w1.heap.size + 1) (by simp) (fun e => by cases e)).trans (by
      have := heap_alloc_new (w1.alloc (.cells #[.int .i64 (a : Int), .int .i64 (a : Int), .int .i64 ((a : Int) + 1)] 3)) (.cells #[.int .i64 (n : Int), .int .i64 ((n : Int) + 1), .int .i64 (n : Int)] 3 (0, 0))
      simpa using this)
    have hb2 : Below w1.heap.size w1 w2 := ⟨hg.os, hg.tape, hg.output, by omega, fun b hb => (hg.block b (by simp; omega) (fun e => by cases e)).trans ((Below.heap_alloc _ _ _ (by simp; omega)).trans (Below.heap_alloc _ _ _ hb))⟩
    refine ⟨hb2.alloc hb2.size _, heap_alloc_new _ _, (Below.heap_alloc _ _ _ (lt_of_blk' hA0)).trans (by simpa using hA0), (Below.heap_alloc _ _ _ (lt_of_blk' hA1)).trans (by simpa using hA1), (Below.heap_alloc _ _ _ hlt2).trans (by simpa using hfull), World.ownsRow_nil _ _ _ _, by show w1.heap.size ≤ w2.heap.size; omega, Nat.le_refl _, by show w1.heap.size ≤ w1.heap.size + 1; omega, by show w1.heap.size ≤ w1.heap.size + 1 + 1; omega⟩
  have HMK := hid hmk
  clear hmk HOW2 HGR2
  generalize hB0 : (⟨w2.heap.size, 0, 0, w1.heap.size, w1.heap.size + 1, w1.heap.size + 1 + 1⟩ : Bx) = B0 at *
  have eB : w2.heap.size = B0.bb := by rw [← hB0]
  have HKB : Hid (w1.heap.size ≤ B0.gk) := HMK.out.zk
  generalize (w2.alloc (.cells #[.pointer (some ⟨p, 0, none⟩), .slice none 0 0, .slice (some ⟨w1.heap.size, 0, none⟩) 3 3, .slice (some ⟨w1.heap.size + 1, 0, none⟩) 3 3, .slice (some ⟨w1.heap.size + 1 + 1, 0, none⟩) 3 3] 115)) = wB at *
  rw [eB]
  clear hB0 eB hz2' 
  have HEN : Hid (∀ (r : Nat) (w' : World), r < 3 → Below w1.heap.size w1 w' → Calls Try.prog 10 #[.pointer (some ⟨d, 0, none⟩), .int .i64 (r : Int)] w' fun e w'' => e = .returned (.tuple #[.string (txt (writeB (W.D.sks.getD r Hd.none).sk)), .int .i64 0]) ∧ Below w'.heap.size w' w'') := by
    intro r w' hr hb
    obtain ⟨own1, vs1, vx1, vw1, hw1, _⟩ := HST.out
    have e := opened_at (k := (W.sd 0).k) HLN.out hr
    have h9 := encode_any d (W.opened 3 (W.sd 0).k).D r w' (hw1.desk.below hb) (by show r < (W.D.sks ++ [_]).length; simp [HLN.out]; omega) (by rw [e]; exact HOK.out r hr)
    rw [e] at h9
    exact h9
  obtain ⟨own1, vs1, vx1, vw1, hw1, _⟩ := HST.out
  obtain ⟨q0, _⟩ := blk7 hw1.blk
  have hpz := lt_of_blk' hw1.blk
  have HT := hid (show (fun r => txt (writeB (W.D.sks.getD r Hd.none).sk)) = (fun r => txt (writeB (W.D.sks.getD r Hd.none).sk)) from rfl)
  clear hw1
  generalize hTT : (fun r => txt (writeB (W.D.sks.getD r Hd.none).sk)) = T at *
  have HTT : Hid (∀ r, txt (writeB (W.D.sks.getD r Hd.none).sk) = T r) := fun r => by rw [← hTT]
  have HEN2 : Hid (∀ (r : Nat) (w' : World), r < 3 → Below w1.heap.size w1 w' → Calls Try.prog 10 #[.pointer (some ⟨d, 0, none⟩), .int .i64 (r : Int)] w' fun e w'' => e = .returned (.tuple #[.string (T r), .int .i64 0]) ∧ Below w'.heap.size w' w'') := fun r w' hr hb => by
    rw [← HTT.out r]; exact HEN.out r w' hr hb
  clear HT hTT HEN
  go_loopw [8, 12] (fun so si wr => ∃ (r c : Nat) (ao : Option Addr), r ≤ 3 ∧ so = .bool true ∧ si = .int .i64 (r : Int) ∧ Hid (BxMk w1 wr B0 p a n (.slice ao r c) r T)) (fun _ si _ => 3 - (intOf si).toNat)
  case atStart => exact ⟨0, 0, none, Nat.zero_le _, rfl, rfl, HMK.out⟩
  case round =>
    obtain ⟨r, c, ao, hr, rfl, rfl, Hmk⟩ := hrel
    by_cases hlt : r < 3
    · have r0 := (Hmk.out.bel.cell (p := ⟨p, 0, none⟩) hpz).trans q0
      have HE := hid (HEN2.out r wr hlt Hmk.out.bel)
      go_wp2_with fail
      refine HE.out.mono ?_
      rintro e w3 ⟨rfl, hb3⟩
      have hmk3 := Hmk.out.below hb3
      obtain ⟨b0, b1, b2, b3, b4, bz⟩ := blk5 hmk3.blk
      have hbz := lt_of_blk' hmk3.blk
      have HM3 := hid hmk3
      have HR3 := hid hmk3.row
      have hs3 := hmk3.bel.size
      have HNE : Hid (Value.ownBlock (.slice ao r c) ≠ some B0.bb) := by
        intro e
        obtain ⟨c', hc'⟩ := ownsRow_blk hmk3.row e
        rw [hmk3.blk] at hc'; cases hc'
      clear hmk3 hb3 HE
      go_wp2_with (first | (at_builtin; refine wpList_append_lies _ rfl (.tmp 61) (.tmp 63) 61 rfl w1.heap.size 9 i0 (.string ByteArray.empty) 1 16 Try.underlying61 hi0 hz0 hz1 hz2 rfl (by decide) (.slice ao r c) r (strs T r) rfl (HR3.out.alloc _) ⟨w3.heap.size, 0, none⟩ 1 1 [.string (T r)] rfl rfl (one_strnew rfl _ _) (one_str _) (by decide) (by unfold maxLen; omega) (by omega) (by simp; omega) (w3.heap.size + 1) (by simp) ?_; intro g5 cap5 w5 hown5 hgrow5 hat5 hlt5; have hq5 := (hgrow5.block B0.bb (by simp; omega) (Ne.symm HNE.out)).trans ((Below.heap_alloc _ _ _ hbz).trans HM3.out.blk); obtain ⟨y0, y1, y2, y3, y4, yz⟩ := blk5 hq5; have HN5 := hid (HM3.out.more ((Below.refl w3.heap.size w3).alloc (Nat.le_refl _) (.cells #[.string (T r)] 9)) hown5 hgrow5)))
      go_roundw
      case rel => exact ⟨r + 1, cap5, some ⟨g5, 0, none⟩, by omega, rfl, by go_num, HN5⟩
      case measure => simp [intOf]; omega
    · have hr3 : r = 3 := by omega
      subst hr3
      go_wp2_with fail
      go_ret2
      have hmk := Hmk.out
      obtain ⟨gt, eao⟩ : ∃ g, ao = some ⟨g, 0, none⟩ := by
        rcases hmk.row.2 with ⟨e, h9⟩ | ⟨g, cap, cur, e, _⟩
        · omega
        · cases e; exact ⟨g, rfl⟩
      subst eao
      obtain ⟨hw9, hk9⟩ := HST.out.fresh hmk.bel
      have hgt := ownsRow_lt hmk.row (g := gt) rfl
      have hgt2 := (hmk.row.lt gt rfl).1
      refine ⟨⟨B0.bb, gt, c, B0.ga, B0.gn, B0.gk⟩, ps', W.opened 3 (W.sd 0).k, T, a, n, rfl, ⟨_, wr, hw9, ⟨hmk.blk, fun r' hr' => ownsRow_cell hmk.row (strs_at T hr'), hgt, hmk.snd, hmk.seq, hmk.tkn, .inr ⟨hmk.zb, lt_of_blk' hmk.blk⟩, .inr ⟨hgt2, hgt⟩, .inr ⟨hmk.za, lt_of_blk' hmk.snd⟩, .inr ⟨hmk.zn, lt_of_blk' hmk.seq⟩, .inr ⟨hmk.zk, lt_of_blk' hmk.tkn⟩⟩, fun b hb => .inl hb, hk9⟩, ?_, ha, fun hx => ?_⟩
      · refine ⟨HMO.out, fun r hr => ?_, fun r hr => ?_, ?_⟩
        · rw [opened_at HLN.out hr, ← HTT.out r]; exact HLT.out r hr
        · rw [opened_at3 HLN.out]; rfl
        · rw [opened_at3 HLN.out]; exact Nat.zero_le _
      · have h8 : B0.gk < w1.heap.size := HK1.out _ hx
        have := hmk.zk
        omega

end Go.Proofs.Ytklicjbpjigfdab

/- DERIVED. A sealed sketch takes no more; the walk of shut. -/
namespace Go.Proofs.Ytklicjbpjigfdab
open Go.RowKit
attribute [local go_sem ↓] Go.wp_at_zero Go.wp_at_succ
variable {F : Nat → Prop} {K : Nat → Prop} {w0 : World}

set_option maxHeartbeats 400000 in
theorem add_sealed (d i : Nat) (x wt : Int) (D : Dk) (w : World) (h : DeskAt F w d D) (hi : i < D.sks.length) (hs : (D.sks.getD i Hd.none).sealed = true) :
    Calls Try.prog 56 #[.pointer (some ⟨d, 0, none⟩), .int .i64 (i : Int), .int .i64 x, .int .i64 wt] w fun e w' => e = .returned (.int .i64 5) ∧ w' = w := by
  obtain ⟨vt, vk, rs, h⟩ := h
  obtain ⟨g, c, rfl, hg, q0, q1, q2, q3, q4⟩ := h.cells5 hi
  obtain ⟨_, _, c2, _⟩ := blk3 h.blk
  have HH := hid (has_any d (i : Int) _ _ _ _ c2)
  rw [hasB_nat hi] at HH
  rw [hs] at q4
  have hs1 : (0 : Int) ≤ (i : Int) := by omega
  have hs2 : (i : Int) < (D.sks.length : Int) := by omega
  clear h q0 q1 q2 q3
  generalize D.sks.length = n at *
  go_enter Try.func56, Try.ntmps56
  go_wp2_with (go_at_call 32; refine HH.out.mono ?_; rintro e w' ⟨rfl, rfl⟩)
  go_ret
  exact ⟨rfl, rfl⟩

set_option maxHeartbeats 400000 in
theorem merge_sealed (d i j : Nat) (D : Dk) (w : World) (h : DeskAt F w d D) (hi : i < D.sks.length) (hj : j < D.sks.length) (hs : (D.sks.getD i Hd.none).sealed = true) :
    Calls Try.prog 57 #[.pointer (some ⟨d, 0, none⟩), .int .i64 (i : Int), .int .i64 (j : Int)] w fun e w' => e = .returned (.int .i64 5) ∧ w' = w := by
  obtain ⟨vt, vk, rs, h⟩ := h
  obtain ⟨g, c, rfl, hg, q0, q1, q2, q3, q4⟩ := h.cells5 hi
  obtain ⟨_, _, c2, _⟩ := blk3 h.blk
  have HH := hid (has_any d (i : Int) _ _ _ _ c2)
  have HH2 := hid (has_any d (j : Int) _ _ _ _ c2)
  rw [hasB_nat hi] at HH
  rw [hasB_nat hj] at HH2
  rw [hs] at q4
  have hs1 : (0 : Int) ≤ (i : Int) := by omega
  have hs2 : (i : Int) < (D.sks.length : Int) := by omega
  clear h q0 q1 q2 q3
  generalize D.sks.length = n at *
  go_enter Try.func57, Try.ntmps57
  go_wp2_with fail
  refine HH.out.mono ?_
  rintro e w' ⟨rfl, hw⟩
  obtain rfl := hw.symm
  clear HH hw
  go_wp2_with fail
  refine HH2.out.mono ?_
  rintro e w' ⟨rfl, hw⟩
  obtain rfl := hw.symm
  clear HH2 hw
  go_wp2_with fail
  go_ret
  exact ⟨rfl, rfl⟩

theorem BxSt.step {B : Bx} {p d : Nat} {ps : Nat → Nat} {W : Wd} {T : Nat → ByteArray} {a n : Nat} {tk : Nat → Bool} {w : World} (h : BxSt K w0 w B p d ps W T a n tk) : ∃ F, DeskAt F w d W.D ∧ ∀ w' D', DeskStep F w w' d D' → BxSt K w0 w' B p d ps { W with D := D' } T a n tk := by
  obtain ⟨K1, w1, ⟨own, vs, vx, vw, h1, h2K, hk⟩, h2, h3, h4⟩ := h
  exact ⟨_, h1.desk, fun w' D' hs => ⟨K1, w1, h1.deskStep h2K hk hs, h2, h3, h4⟩⟩

/-- Sketch 3 is sealed. -/
def Wd.shut (W : Wd) : Wd := { W with D := { W.D with sks := W.D.sks.set 3 { W.D.sks.getD 3 Hd.none with sealed := true } } }
theorem shut_at {W : Wd} (hl : W.D.sks.length = 4) (j : Nat) : W.shut.D.sks.getD j Hd.none = if j = 3 then { W.D.sks.getD 3 Hd.none with sealed := true } else W.D.sks.getD j Hd.none := set3_at hl
theorem shut_sk {W : Wd} (hl : W.D.sks.length = 4) (j : Nat) : (W.shut.D.sks.getD j Hd.none).sk = (W.D.sks.getD j Hd.none).sk := by
  rw [shut_at hl]
  by_cases e : j = 3
  · rw [if_pos e, e]
  · rw [if_neg e]
theorem shut_len {W : Wd} (hl : W.D.sks.length = 4) : W.shut.D.sks.length = 4 := by
  show (W.D.sks.set 3 _).length = 4
  rw [List.length_set]; exact hl

/-- Behind the last merge: what is told of sketch 0. -/
theorem shut_near {W : Wd} {q : Int} {L' : List Lvl} {cs : List Bool} {a : Nat} (h : MInvM 4 W) (hf : wsum (W.shut.D.sks.getD 0 Hd.none).sk.lv + wsum (W.shut.D.sks.getD 3 Hd.none).sk.lv ≤ 268435456) (ha : a ≤ 140737488355328)
    (hs : settle (mgK (W.shut.D.sks.getD 0 Hd.none) (W.shut.D.sks.getD 3 Hd.none)) cs 0 (mgL (W.shut.D.sks.getD 0 Hd.none) (W.shut.D.sks.getD 3 Hd.none)) = some (L', cs.length)) (hcs : cs.length ≤ 230) :
    (W.shut.joined 0 3 L' cs.length a).D.sks.length = 4 ∧ Came ((W.shut.joined 0 3 L' cs.length a).D.sks.getD 0 Hd.none) ((W.shut.joined 0 3 L' cs.length a).sd 0) ∧ Roomy ((W.shut.joined 0 3 L' cs.length a).D.sks.getD 0 Hd.none).sk.k ((W.shut.joined 0 3 L' cs.length a).D.sks.getD 0 Hd.none).sk.lv ∧
    Near q ((W.shut.joined 0 3 L' cs.length a).D.sks.getD 0 Hd.none).sk.lv (wFilter (fun x => decide (x ≤ q)) ((W.shut.joined 0 3 L' cs.length a).sd 0).xs ((W.shut.joined 0 3 L' cs.length a).sd 0).ws) := by
  have hl := h.len
  have e0 : W.shut.D.sks.getD 0 Hd.none = W.D.sks.getD 0 Hd.none := by rw [shut_at hl, if_neg (by omega)]
  have e3 : W.shut.D.sks.getD 3 Hd.none = { W.D.sks.getD 3 Hd.none with sealed := true } := by rw [shut_at hl, if_pos rfl]
  rw [e0, e3] at hf hs
  have hj := minv_joined h (show 0 < 4 by omega) (show 3 < 4 by omega) hf ha (cs := cs) (L' := L') hs hcs
  have g1 : ∀ (l : List Hd) (x : Hd), 0 < l.length → (l.set 0 x).getD 0 Hd.none = x := fun l x hx => by simp [List.getD, hx]
  have ek : ((W.shut.joined 0 3 L' cs.length a).D.sks.getD 0 Hd.none).sk = ((W.joined 0 3 L' cs.length a).D.sks.getD 0 Hd.none).sk := by
    show ((W.shut.D.sks.set 0 _).getD 0 Hd.none).sk = ((W.D.sks.set 0 _).getD 0 Hd.none).sk
    rw [g1 _ _ (by rw [shut_len hl]; omega), g1 _ _ (by rw [hl]; omega), e0, e3]
    rfl
  have es : (W.shut.joined 0 3 L' cs.length a).sd = (W.joined 0 3 L' cs.length a).sd := rfl
  refine ⟨?_, ?_, ?_, ?_⟩
  · show (W.shut.D.sks.set 0 _).length = 4
    rw [List.length_set]; exact shut_len hl
  · rw [es]; exact Came.congr ek (hj.came 0 (by omega))
  · rw [ek]; exact hj.roomy 0 (by omega)
  · rw [ek, es]; exact hj.near 0 (by omega) q

set_option maxHeartbeats 4000000 in
set_option maxRecDepth 100000 in
theorem shut_any {B : Bx} {p d : Nat} {ps : Nat → Nat} {W : Wd} {T : Nat → ByteArray} {a n : Nat} {tk : Nat → Bool} {w : World} (q : Int) (h : BxSt K w0 w B p d ps W T a n tk) (ho : OInv W T a n tk) :
    Calls Try.prog 24 #[.pointer (some ⟨B.bb, 0, none⟩), .int .i64 q] w fun e w' => e = .returned (.bool true) ∧ Keeps K w0 w' := by
  have hl := ho.inv.len
  have hc3 := ho.inv.came 3 (by omega)
  have hc0 := ho.inv.came 0 (by omega)
  have hdl : (dumpOf q (W.D.sks.getD 3 Hd.none).sk).length ≤ 1099511627776 := by
    rw [dumpOf_length]
    have := hc3.inok.ok.len
    have := hc3.inok.ok.cnt
    have := nsum_le (W.D.sks.getD 3 Hd.none).sk.lv
    omega
  obtain ⟨K', hbx⟩ := h.box
  obtain ⟨b0, b1, _, _, _, bz⟩ := blk5 hbx.blk
  have hbz := lt_of_blk' hbx.blk
  have ht := hbx.txt 0 (by omega)
  have htz := hbx.ltt
  obtain ⟨K9, w9, hst9, _⟩ := h.use
  have HDU := hid (dump_new p d 3 q ps W w hst9 (by omega) hl hc3 (ho.inv.roomy 3 (by omega)))
  have HST := hid h
  have HOI := hid ho
  have HL := hid hl
  have HC3 : Hid (Came (W.shut.D.sks.getD 3 Hd.none) (W.shut.sd 3)) := Came.congr (shut_sk hl 3) hc3
  have HC0 : Hid (Came (W.shut.D.sks.getD 0 Hd.none) (W.shut.sd 0)) := Came.congr (shut_sk hl 0) hc0
  clear hbx h ho hst9 hc3 hc0
  go_enter Try.func24, Try.ntmps24
  go_wp2_with fail
  refine HDU.out.mono ?_
  rintro e w1 ⟨v1, rfl, hI1, hb1, hn1⟩
  have HI1 := hid hI1
  have HB1 := hid hb1
  have HNEW := hid hn1
  obtain ⟨hst1, hkp1⟩ := HST.out.fresh hb1
  obtain ⟨F1, hd1, hstep⟩ := hst1.step
  have HS := hid (dseal_any d 3 W.D w1 hd1 (by rw [HL.out]; omega) (HOI.out.inv.uns 3 (by omega)))
  have HSTEP := hid hstep
  have HKP := hid hkp1
  obtain ⟨K2, w2', ⟨own2, vs2, vx2, vw2, hwd2, _⟩, _⟩ := hst1.use
  obtain ⟨s0, _⟩ := blk7 hwd2.blk
  have hpz := lt_of_blk' hwd2.blk
  clear hst1 hkp1 hd1 hstep hI1 hb1 hn1 hwd2 HDU
  go_wp2_with fail
  refine HS.out.mono ?_
  rintro e w2 ⟨rfl, hst2⟩
  have hS2 := HSTEP.out w2 _ hst2
  have HS2 : Hid (BxSt (fun b => K b ∨ (w.heap.size ≤ b ∧ b < w1.heap.size)) w1 w2 B p d ps W.shut T a n tk) := hS2
  clear hst2 hS2 HS HSTEP s0
  obtain ⟨F2, hd2⟩ := HS2.out.desk
  have hsl : (W.shut.D.sks.getD 3 Hd.none).sealed = true := by rw [shut_at HL.out, if_pos rfl]
  have hlen2 := shut_len HL.out
  have HE1 := hid (dseal_twice d 3 W.shut.D w2 hd2 (by rw [hlen2]; omega) hsl)
  have HE2 := hid (add_sealed d 3 q 1 W.shut.D w2 hd2 (by rw [hlen2]; omega) hsl)
  have HE3 := hid (merge_sealed d 3 0 W.shut.D w2 hd2 (by rw [hlen2]; omega) (by rw [hlen2]; omega) hsl)
  have HE4 := hid (btake_no B p d 0 5 ps W.shut T a n tk (T 0) w2 HS2.out (by omega) HOI.out.inv.tape (by decide) (fun w' hb => (dtake_sealed d 3 W.shut.D _ _ (T 0) w' (hd2.below hb) (by rw [hlen2]; omega) hsl).mono (fun _ _ h => ⟨h.1, by rw [h.2]; exact Below.refl _ _⟩)))
  obtain ⟨K3, w3', hst3, huse3⟩ := HS2.out.use
  have HST3 := hid hst3
  have HUSE3 := hid huse3
  obtain ⟨own3, vs3, vx3, vw3, hwd3, _⟩ := hst3
  obtain ⟨t0, _⟩ := blk7 hwd3.blk
  have hpz2 := lt_of_blk' hwd3.blk
  obtain ⟨K4, hbx2⟩ := HS2.out.box
  obtain ⟨x0, x1, _, _, _, xz⟩ := blk5 hbx2.blk
  have xt := hbx2.txt 0 (by omega)
  have hbz2 := lt_of_blk' hbx2.blk
  have htz2 := hbx2.ltt
  have hkp2 := HS2.out.keeps
  have HI2 : Hid (Ints w2 v1 (dumpOf q (W.D.sks.getD 3 Hd.none).sk)) := HI1.out.block (fun g hg => hkp2.block g (.inr ⟨HNEW.out g hg, ownsRow_lt HI1.out hg⟩))
  clear hwd3 hbx2 hkp2 huse3 b0 b1 bz ht hd2
  go_wp2_with fail
  refine HE1.out.mono ?_
  rintro e w' ⟨rfl, hw⟩
  obtain rfl := hw.symm
  clear hw HE1
  go_wp2_with fail
  refine HE2.out.mono ?_
  rintro e w' ⟨rfl, hw⟩
  obtain rfl := hw.symm
  clear hw HE2
  go_wp2_with fail
  refine HE3.out.mono ?_
  rintro e w' ⟨rfl, hw⟩
  obtain rfl := hw.symm
  clear hw HE3
  go_wp2_with fail
  refine HE4.out.mono ?_
  rintro e w4 ⟨rfl, hb4⟩
  have HB4 := hid hb4
  have HD4 := hid (dump_any p d 3 q ps W.shut w4 (HST3.out.below hb4) (by omega) hlen2 HC3.out (by rw [shut_sk HL.out]; exact HOI.out.inv.roomy 3 (by omega)))
  rw [shut_sk HL.out] at HD4
  clear hb4 HE4
  go_wp2_with fail
  refine HD4.out.mono ?_
  rintro e w5 ⟨v2, rfl, hI5, hb5⟩
  have HB5 := hid (HB4.out.trans (hb5.mono HB4.out.size))
  have HSI := hid (sameInts_any v1 v2 _ w5 (HI2.out.below HB5.out) hI5 hdl)
  clear hI5 hb5 HD4
  go_wp2_with fail
  refine HSI.out.mono ?_
  rintro e w6 ⟨rfl, hb6⟩
  have HB6 := hid (HB5.out.trans (hb6.mono HB5.out.size))
  have HKE := hid (kept_any p d 3 ps W.shut w6 (HST3.out.below HB6.out) (by omega) hlen2 HC3.out)
  clear hb6 HSI
  go_wp2_with fail
  refine HKE.out.mono ?_
  rintro e w7 ⟨rfl, hb7⟩
  have HB7 := hid (HB6.out.trans (hb7.mono HB6.out.size))
  have HMG := hid (wmerge_any p d 0 3 ps W.shut w7 (HST3.out.below HB7.out) (by omega) (by omega) hlen2 (by rw [shut_at HL.out, if_neg (by omega)]; exact HOI.out.inv.uns 0 (by omega)) HC0.out HC3.out HOI.out.inv.tape HOI.out.inv.at_ HOI.out.inv.coins HOI.out.inv.most (HOI.out.inv.small (by omega)))
  clear hb7 HKE
  go_wp2_with fail
  refine HMG.out.mono ?_
  rintro e w8 ⟨rfl, hpost⟩
  have hfin : ∃ V, WdSt K3 w3' w8 p d 4 ps V ∧ V.D.sks.length = 4 ∧ Came (V.D.sks.getD 0 Hd.none) (V.sd 0) ∧ Roomy (V.D.sks.getD 0 Hd.none).sk.k (V.D.sks.getD 0 Hd.none).sk.lv ∧ Near q (V.D.sks.getD 0 Hd.none).sk.lv (wFilter (fun x => decide (x ≤ q)) (V.sd 0).xs (V.sd 0).ws) := by
    rcases hpost with ⟨_, hst⟩ | ⟨hf, cs, L', a', hda, hset, hcs, hst⟩
    · exact ⟨_, hst, hlen2, HC0.out, by rw [shut_sk HL.out]; exact HOI.out.inv.roomy 0 (by omega), by rw [shut_sk HL.out]; exact HOI.out.inv.near 0 (by omega) q⟩
    · obtain ⟨z1, z2, z3, z4⟩ := shut_near (q := q) HOI.out.inv hf hda.1 hset hcs
      exact ⟨_, hst, z1, z2, z3, z4⟩
  obtain ⟨V, hst8, z1, z2, z3, z4⟩ := hfin
  have HWI := hid (within_gen p d 0 q ps V w8 hst8 (by omega) z1 z2 z3 z4)
  have HS8 := hid (HUSE3.out w8 V hst8)
  clear hpost hst8 z1 z2 z3 z4 HMG
  go_wp2_with fail
  refine HWI.out.mono ?_
  rintro e w9 ⟨rfl, hb9⟩
  have HS9 := hid (HS8.out.below hb9)
  clear hb9 HWI
  go_wp2_with fail
  go_ret
  exact ⟨rfl, (HS9.out.back (fun b hb => .inl hb) HKP.out).keeps⟩

end Go.Proofs.Ytklicjbpjigfdab

/- DERIVED. The walk of the statement Once. -/
namespace Go.Proofs.Ytklicjbpjigfdab
open Go.RowKit
attribute [local go_sem ↓] Go.wp_at_zero Go.wp_at_succ

set_option maxHeartbeats 2000000 in
set_option maxRecDepth 100000 in
theorem once_walk (k : Int) (coins : ByteArray) (ao bo : Option Addr) (n cap m bcap : Nat) (ss ms : List St) (sd sq q : Int) (w : World) (hk1 : -9223372036854775808 ≤ k) (hk2 : k ≤ 9223372036854775807) (hcs : coins.size ≤ 140737488355328) (hl : ss.length = n) (hr : n * 32 ≤ 140737488351232) (hrg : ∀ s ∈ ss, InRange s.a ∧ InRange s.b ∧ InRange s.c) (hc : StepsAt w ao n ss) (hl2 : ms.length = m) (hr2 : m * 32 ≤ 140737488351232) (hrg2 : ∀ s ∈ ms, InRange s.a ∧ InRange s.b ∧ InRange s.c) (hc2 : StepsAt w bo m ms) (h1 : InRange sd) (h2 : InRange sq) :
    Calls Try.prog 6 #[.int .i64 k, .string coins, .slice ao n cap, .int .i64 sd, .int .i64 sq, .slice bo m bcap, .int .i64 q] w fun e w' => e = .returned (.bool true) ∧ Below w.heap.size w w' := by
  have HPL := hid (played_any k coins ao n cap ss w hk1 hk2 hcs hl hr hrg hc)
  have HRB : Hid (∀ s ∈ ss, InRange s.b) := fun s hs => (hrg s hs).2.1
  have HRG2 := hid hrg2
  have HC2 := hid hc2
  have HL2 := hid hl2
  clear hl hrg hc hrg2 hc2 hl2
  go_enter Try.func6, Try.ntmps6
  go_wp2_with fail
  refine HPL.out.mono ?_
  rintro e w1 ⟨p, d, ps, W, rfl, hst, hm, hpl⟩
  have htv : TInv W := hpl.kp (first_minv k coins hcs) (first_tinv k coins) HRB.out
  have hroom : W.D.room = 4 := hpl.room.trans (first_len k coins 3).2
  have HBX := hid (box_any p d sd sq ps W w1 hst hm htv hroom h1 h2 (fun b hb => hb))
  clear hst hm hpl htv hroom HPL
  go_wp2_with fail
  refine HBX.out.mono ?_
  rintro e w2 ⟨B, ps', W', T, a, nn, rfl, hs2, ho2, ha, hK⟩
  have HS2 := hid hs2
  have HO2 := hid ho2
  have HK := hid hK
  clear hs2 ho2 HBX hK
  go_wp2_with fail
  go_loopw [18] (fun si wr => ∃ (t : Nat) (V : Wd) (tk : Nat → Bool), t ≤ m ∧ si = .int .i64 t ∧ Hid (OInv V T a nn tk) ∧ Hid (BxSt (fun b => b < w.heap.size) w wr B p d ps' V T a nn tk)) (fun si _ => m - (intOf si).toNat)
  case atStart => exact ⟨0, _, _, Nat.zero_le _, rfl, HO2, HS2⟩
  case round =>
    obtain ⟨t, V, tk, ht, rfl, Hv, Hs⟩ := hrel
    clear HS2 HO2
    by_cases htl : t < m
    · have htl' : t < ms.length := by rw [HL2.out]; exact htl
      have g1' : decide ((t : Int) < (m : Int)) = true := decide_eq_true (by omega)
      obtain ⟨bs, off, rfl, hbz, q0, q1, q2, q3⟩ := HC2.out t htl
      have hke := Hs.out.keeps
      have hbk : ∀ o, wr.cell? ⟨bs, o, none⟩ = w.cell? ⟨bs, o, none⟩ := fun o => World.cell?_of_block (hke.block bs hbz)
      rw [← hbk] at q0 q1 q2 q3
      have hmem : ms.getD t St.zero ∈ ms := by simp [List.getD, htl']
      have hg := HRG2.out _ hmem
      generalize ms.getD t St.zero = st at *
      have HDE := hid (delivered_any st.kd st.a st.b st.c q Hs.out Hv.out HK.out ha hg.1 hg.2.1 hg.2.2)
      clear hmem hg hbk hke
      go_wp2_with fail
      refine HDE.out.mono ?_
      rintro e w6 ⟨rfl, V6, tk6, hs6, hv6⟩
      have HS6 := hid hs6
      have HV6 := hid hv6
      clear hs6 hv6 HDE q0 q1 q2 q3
      go_wp2_with fail
      go_roundw
      case rel => exact ⟨t + 1, V6, tk6, by omega, by go_num, HV6, HS6⟩
      case measure => simp [intOf]; omega
    · have g1' : decide ((t : Int) < (m : Int)) = false := decide_eq_false (by omega)
      have HSH := hid (shut_any q Hs.out Hv.out)
      go_wp2_with fail
      refine HSH.out.mono ?_
      rintro e w8 ⟨rfl, hk8⟩
      have HK8 := hid hk8
      clear hk8 HSH
      go_wp2_with fail
      go_ret
      have h9 := HK8.out
      exact ⟨rfl, h9.os, h9.tape, h9.output, h9.size, h9.block⟩

end Go.Proofs.Ytklicjbpjigfdab
