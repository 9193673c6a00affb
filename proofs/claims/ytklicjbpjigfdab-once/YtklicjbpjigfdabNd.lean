/- DERIVED. The walks of the text's writer: put, check. -/
import Derived.Test.YtklicjbpjigfdabMn
import Derived.Test.YtklicjbpjigfdabLvW
import Derived.Deep.AppendLies
import Derived.Lib.AppendStr
import Derived.Laws.IdiomStrings
import Derived.Deep.Cut
import Derived.Deep.CutRange
namespace Go.Proofs.Ytklicjbpjigfdab
open Go.RowKit

theorem Try.infoByte : (Try.prog.info? 5).map (fun i => (i.zero, i.size, i.bytes)) = some (some (.int .u8 0), 1, 1) := by kernel_rfl

/-- The cells of a list of bytes. -/
def byts (bs : List Nat) : List Value := bs.map fun (b : Nat) => Value.int .u8 (b : Int)
theorem byts_snoc (bs : List Nat) (b : Nat) : byts bs ++ [Value.int .u8 (b : Int)] = byts (bs ++ [b]) := by simp [byts]

/-- A text, as far as it is written, lies behind block p; all that has turned since w0 is above B. -/
def WrSt (B p : Nat) (bs : List Nat) (w0 w : World) : Prop :=
  ∃ ao c, B ≤ p ∧ w.heap[p]? = some (.cells #[.slice ao bs.length c] 122 (0, 0)) ∧ w.ownsRow B 5 1 (.slice ao bs.length c) bs.length (byts bs) ∧ Below B w0 w
theorem WrSt.below {B p : Nat} {bs : List Nat} {w0 w w' : World} (h : WrSt B p bs w0 w) (hb : Below w.heap.size w w') : WrSt B p bs w0 w' := by
  obtain ⟨ao, c, h1, h2, h3, h4⟩ := h
  exact ⟨ao, c, h1, (hb.block p (lt_of_blk' h2)).trans h2, ownsRow_below h3 hb (fun g hg => ownsRow_lt h3 hg), h4.trans (hb.mono (by have := lt_of_blk' h2; omega))⟩
theorem blk1 {w : World} {r : Nat} {a : Value} {e : TypeId} (h : w.heap[r]? = some (.cells #[a] e (0, 0))) :
    w.cell? ⟨r, 0, none⟩ = some a ∧ (∀ o, w.frozen? ⟨r, o, none⟩ = false) := by
  refine ⟨?_, fun o => ?_⟩ <;> simp [World.cell?, World.frozen?, h]

theorem WrSt.apart {B p c : Nat} {ao : Option Addr} {n : Nat} {xs : List Value} {w : World} (hb : w.heap[p]? = some (.cells #[.slice ao n c] 122 (0, 0))) (hr : w.ownsRow B 5 1 (.slice ao n c) n xs) : (Value.slice ao n c).ownBlock ≠ some p := by
  intro e
  rcases hr.2 with ⟨e', _⟩ | ⟨g', cap', cur, e', _, hh, _⟩
  · rw [e'] at e; simp [Value.ownBlock] at e
  · rw [e'] at e; simp [Value.ownBlock] at e; subst e
    rw [hb] at hh; cases hh
/-- All but texts that are being written is kept. -/
def TxKept (w w' : World) : Prop := w.heap.size ≤ w'.heap.size ∧ ∀ (b : Nat) (cc : Array Value) (t : TypeId) (fr : Nat × Nat), w.heap[b]? = some (.cells cc t fr) → t ≠ 122 → t ≠ 5 → w'.heap[b]? = w.heap[b]?
theorem TxKept.refl (w : World) : TxKept w w := ⟨Nat.le_refl _, fun _ _ _ _ _ _ _ => rfl⟩
theorem TxKept.trans {a b c : World} (h : TxKept a b) (k : TxKept b c) : TxKept a c :=
  ⟨Nat.le_trans h.1 k.1, fun x cc t fr hx h1 h2 => (k.2 x cc t fr ((h.2 x cc t fr hx h1 h2).trans hx) h1 h2).trans (h.2 x cc t fr hx h1 h2)⟩
theorem TxKept.more {B p n c : Nat} {ao : Option Addr} {xs : List Value} {o : Obj} {w w2 : World} {v : Value} (hb : w.heap[p]? = some (.cells #[.slice ao n c] 122 (0, 0))) (hr : w.ownsRow B 5 1 (.slice ao n c) n xs) (hgrow : (w.alloc o).grownBy w2 (Value.slice ao n c).ownBlock) :
    TxKept w (w2.setCell ⟨p, 0, none⟩ v) := by
  refine ⟨by rw [setCell_size]; have := hgrow.size; simp at this; omega, fun b cc t fr hx h1 h2 => ?_⟩
  have hz := lt_of_blk' hx
  rw [Below.heap_setCell _ _ _ _ (fun e => ?_), hgrow.block b (by simp; omega) (fun e => ?_), Below.heap_alloc _ _ _ hz]
  · rcases hr.2 with ⟨e', _⟩ | ⟨g', cap', cur, e', _, hh, _⟩
    · rw [e'] at e; simp [Value.ownBlock] at e
    · rw [e'] at e; simp [Value.ownBlock] at e; subst e
      rw [hx] at hh; cases hh; exact h2 rfl
  · subst e; rw [hx] at hb; cases hb; exact h1 rfl

/-- A byte more. -/
theorem WrSt.more {B p g2 cap2 c : Nat} {ao : Option Addr} {bs : List Nat} {b : Nat} {o : Obj} {w0 w w2 : World} (hp : B ≤ p) (hb : w.heap[p]? = some (.cells #[.slice ao bs.length c] 122 (0, 0))) (hr : w.ownsRow B 5 1 (.slice ao bs.length c) bs.length (byts bs)) (hbel : Below B w0 w)
    (hown : w2.ownsRow B 5 1 (.slice (some ⟨g2, 0, none⟩) (bs.length + 1) cap2) (bs.length + 1) (byts bs ++ [.int .u8 (b : Int)])) (hgrow : (w.alloc o).grownBy w2 (Value.slice ao bs.length c).ownBlock) (hat : (Value.slice ao bs.length c).ownBlock = some g2 ∨ w.heap.size ≤ g2) :
    WrSt B p (bs ++ [b]) w0 (w2.setCell ⟨p, 0, none⟩ (.slice (some ⟨g2, 0, none⟩) (bs.length + 1) cap2)) := by
  have hpz := lt_of_blk' hb
  have hne : ∀ c', (Value.slice ao bs.length c).ownBlock = some c' → c' ≠ p := by
    intro c' e e'
    subst e'
    rcases hr.2 with ⟨e', _⟩ | ⟨g', cap', cur, e', _, hh, _⟩
    · rw [e'] at e; simp [Value.ownBlock] at e
    · rw [e'] at e; simp [Value.ownBlock] at e; subst e
      rw [hb] at hh; cases hh
  have hg2 : g2 ≠ p := by
    rcases hat with e | e
    · exact hne _ e
    · omega
  have hb2 : w2.heap[p]? = some (.cells #[.slice ao bs.length c] 122 (0, 0)) := (hgrow.block p (by simp; omega) (fun e => hne p e.symm rfl)).trans ((Below.heap_alloc _ _ _ hpz).trans hb)
  refine ⟨some ⟨g2, 0, none⟩, cap2, hp, ?_, ?_, ?_⟩
  · have := blk_set (i := 0) (.slice (some ⟨g2, 0, none⟩) (bs.length + 1) cap2) hb2
    simpa using this
  · rw [byts_snoc] at hown
    simp only [List.length_append, List.length_singleton]
    exact ownsRow_block hown (fun g e => by simp [Value.ownBlock] at e; subst e; exact Below.heap_setCell _ _ _ _ hg2)
  · refine Below.setCell ?_ hp _
    refine (hbel.alloc (by omega) _).grown hgrow (by simp; omega) (fun k hk => ?_)
    exact (hr.lt k hk).1

theorem wrapU64 (x : Int) : IntKind.u64.wrap x = ((u64 x : Nat) : Int) := by
  have : IntKind.u64.wrap x = x % 18446744073709551616 := by simp [IntKind.wrap, IntKind.bits, IntKind.signed]
  rw [this]; unfold u64; omega

set_option maxHeartbeats 1000000 in
set_option maxRecDepth 100000 in
theorem tput_any (B p n : Nat) (x : Int) (bs : List Nat) (w0 w : World) (h : WrSt B p bs w0 w) (hn : n ≤ 8) (hl : bs.length ≤ 1099511627776) :
    Calls Try.prog 65 #[.pointer (some ⟨p, 0, none⟩), .int .i64 x, .int .i64 (n : Int)] w fun e w' => e = .returned (.tuple #[]) ∧ WrSt B p (bs ++ leB n (u64 x)) w0 w' ∧ TxKept w w' := by
  obtain ⟨i0, hi0, hz0, hz1, hz2⟩ := info_parts Try.infoByte
  have HW := hid h
  have hu := u64_lt x
  have hB : B ≤ w.heap.size := by obtain ⟨_, _, h1, h2, _, _⟩ := h; have := lt_of_blk' h2; omega
  generalize hT : bs ++ leB n (u64 x) = T at *
  have HT := hid hT
  clear h hT
  go_enter Try.func65, Try.ntmps65
  go_wp2_with fail
  go_loopw [6, 7] (fun sr si wr => ∃ (j r : Nat) (cs : List Nat), j ≤ n ∧ sr = .int .u64 (r : Int) ∧ si = .int .i64 j ∧ r < 18446744073709551616 ∧ cs.length ≤ 1099511627776 + j ∧ Hid (cs ++ leB (n - j) r = T) ∧ Hid (WrSt B p cs w0 wr) ∧ Hid (TxKept w wr)) (fun _ si _ => n - (intOf si).toNat)
  case atStart => exact ⟨0, u64 x, bs, Nat.zero_le _, by rw [wrapU64], rfl, hu, hl, HT, HW, TxKept.refl _⟩
  case round =>
    obtain ⟨j, r, cs, hj, rfl, rfl, hr, hcl, Hc, Hw, Hk⟩ := hrel
    by_cases hlt : j < n
    · obtain ⟨ao, c, hp, hb, hrow, hbel⟩ := Hw.out
      obtain ⟨c0, cz⟩ := blk1 hb
      have HR := hid hrow
      have HB := hid hb
      have HL := hid hbel
      have hsz : B ≤ wr.heap.size := by have := lt_of_blk' hb; omega
      have HD : Hid (cs ++ [r % 256] ++ leB (n - (j + 1)) (r / 256) = T) := by
        have := Hc.out
        rw [show n - j = (n - (j + 1)) + 1 by omega, leB] at this
        unfold Hid
        rw [← this]; simp
      have HNE := hid (WrSt.apart hb hrow)
      have hpz := lt_of_blk' hb
      clear hrow hb hbel
      go_wp2_with (at_builtin; refine wpList_append_lies _ rfl (.tmp 19) (.tmp 23) 45 rfl B 5 i0 (.int .u8 0) 1 1 Try.underlying45 hi0 hz0 hz1 hz2 rfl (by decide) (.slice ao cs.length c) cs.length (byts cs) rfl (HR.out.alloc _) ⟨wr.heap.size, 0, none⟩ 1 1 [.int .u8 ((r : Int) % 256)] rfl rfl (one_new _ _ _) (one_cell _ _) (by decide) (by unfold maxLen; omega) (by omega) (by simp; omega) (wr.heap.size + 1) (by simp) ?_; intro g2 cap2 w2 hown2 hgrow2 hat2 hlt2; have hq := (hgrow2.block p (by simp; omega) (Ne.symm HNE.out)).trans ((Below.heap_alloc _ _ p hpz).trans HB.out); obtain ⟨q0, qz⟩ := blk1 hq)
      have HST := hid (WrSt.more (b := r % 256) hp HB.out HR.out HL.out (by simpa using hown2) hgrow2 (hat2.imp id (fun e => by omega)))
      have HKT := hid (Hk.out.trans (TxKept.more (v := .slice (some ⟨g2, 0, none⟩) (cs.length + 1) cap2) HB.out HR.out hgrow2))
      clear hown2 hgrow2 hat2 hlt2 hq
      go_roundw
      case rel => exact ⟨j + 1, r / 256, cs ++ [r % 256], by omega, by simp, by go_num, by omega, by simp; omega, HD, HST, HKT⟩
      case measure => simp [intOf]; omega
    · have HE : Hid (cs = T) := by have := Hc.out; rw [show n - j = 0 by omega, leB, List.append_nil] at this; exact this
      go_wp2
      go_end0
      refine ⟨rfl, ?_, Hk.out⟩
      have := Hw.out
      rw [HE.out] at this
      exact this

theorem byts_form {w : World} {B n c : Nat} {ao : Option Addr} {bs : List Nat} (h : w.ownsRow B 5 1 (.slice ao n c) n (byts bs)) : bs.length = n ∧ n ≤ maxLen ∧ ∀ t, t < n → ∃ g, ao = some ⟨g, 0, none⟩ ∧ g < w.heap.size ∧ w.cell? ⟨g, t, none⟩ = some (.int .u8 ((bs.getD t 0 : Nat) : Int)) := by
  have h' := h
  have hl : bs.length = n := by have := h.1; simpa [byts] using this
  refine ⟨hl, ?_⟩
  rcases h.2 with ⟨e, hn⟩ | ⟨g, cap, cur, e, hg, hh, hnc, hcm, hcs, ht⟩
  · exact ⟨by rw [hn]; exact Nat.zero_le _, fun t ht => by omega⟩
  · cases e
    refine ⟨by omega, fun t ht => ⟨g, rfl, ownsRow_lt h' rfl, ownsRow_cell h' ?_⟩⟩
    simp [byts, List.getD, hl, ht]

theorem ck_drop {bs : List Nat} {j : Nat} (h : j < bs.length) : bs.drop j = bs.getD j 0 :: bs.drop (j + 1) := by
  rw [List.drop_eq_getElem_cons h]; simp [List.getD, h]

set_option maxHeartbeats 1000000 in
theorem check_any (B p : Nat) (bs : List Nat) (w0 w : World) (h : WrSt B p bs w0 w) (hbs : ∀ x ∈ bs, x < 256) :
    Calls Try.prog 67 #[.pointer (some ⟨p, 0, none⟩)] w fun e w' => e = .returned (.tuple #[.int .i64 ((ckA bs 0 : Nat) : Int), .int .i64 ((ckB bs 0 0 : Nat) : Int)]) ∧ w' = w := by
  obtain ⟨ao, c, hp, hb, hrow, hbel⟩ := h
  obtain ⟨hl, hm, hf⟩ := byts_form hrow
  unfold maxLen at hm
  obtain ⟨c0, cz⟩ := blk1 hb
  have HF := hid hf
  have HBS := hid hbs
  generalize hn : bs.length = n at *
  have HN := hid hn
  clear hb hrow hbel hf hbs hn hl
  go_enter Try.func67, Try.ntmps67
  go_wp2_with fail
  go_loop [4, 5, 13] (fun sa sc si => ∃ j a c : Nat, j ≤ n ∧ sa = .int .i64 (a : Int) ∧ sc = .int .i64 (c : Int) ∧ si = .int .i64 j ∧ a < 256 ∧ c < 256 ∧ Hid (ckA (bs.drop j) a = ckA bs 0) ∧ Hid (ckB (bs.drop j) a c = ckB bs 0 0)) (fun _ _ si => n - (intOf si).toNat)
  case atStart => exact ⟨0, 0, 0, Nat.zero_le _, rfl, rfl, rfl, by decide, by decide, rfl, rfl⟩
  case round =>
    obtain ⟨j, a, k, hj, rfl, rfl, rfl, ha, hk, HA, HK⟩ := hrel
    by_cases hlt : j < n
    · obtain ⟨g, rfl, hg, hcell⟩ := HF.out j hlt
      have HD := hid (ck_drop (bs := bs) (j := j) (by rw [HN.out]; exact hlt))
      have hbd : bs.getD j 0 < 256 := by
        have : j < bs.length := by rw [HN.out]; exact hlt
        rw [List.getD_eq_getElem?_getD, List.getElem?_eq_getElem this]
        exact HBS.out _ (List.getElem_mem this)
      generalize bs.getD j 0 = b at *
      go_wp2
      go_round
      case rel =>
        refine ⟨j + 1, (a + b) % 256, (k + (a + b) % 256) % 256, by omega, by simp, by simp, by go_num, by omega, by omega, ?_, ?_⟩
        · have := HA.out; rw [HD.out, ckA] at this; exact this
        · have := HK.out; rw [HD.out, ckB] at this; exact this
      case measure => simp [intOf]; omega
    · have HE : Hid (a = ckA bs 0 ∧ k = ckB bs 0 0) := by
        have h1 := HA.out
        have h2 := HK.out
        rw [List.drop_eq_nil_of_le (by rw [HN.out]; omega)] at h1 h2
        exact ⟨h1, h2⟩
      go_wp2
      go_ret2
      exact ⟨by rw [HE.out.1, HE.out.2]; rfl, rfl⟩

end Go.Proofs.Ytklicjbpjigfdab

/- DERIVED. The walk of texts.Write: the sketch's text. -/
namespace Go.Proofs.Ytklicjbpjigfdab
open Go.RowKit
variable {F : Nat → Prop}

/-- Bytes as a text. -/
def txt (bs : List Nat) : ByteArray := ⟨(bs.map UInt8.ofNat).toArray⟩

/-- The two bytes that each text begins with. -/
theorem WrSt.first {w w1 : World} {g cap : Nat} {o : Obj} (hown : w1.ownsRow (w.heap.size + 1) 5 1 (.slice (some ⟨g, 0, none⟩) 2 cap) 2 (Go.Lib.strCells ⟨#[83, 75]⟩)) (hgrow : ((w.alloc o).alloc (.cells #[.slice none 0 0] 122)).grownBy w1 none) :
    WrSt (w.heap.size + 1) (w.heap.size + 1) [83, 75] (w.alloc o) (w1.setCell ⟨w.heap.size + 1, 0, none⟩ (.slice (some ⟨g, 0, none⟩) 2 cap)) := by
  have hb : w1.heap[w.heap.size + 1]? = some (.cells #[.slice none 0 0] 122 (0, 0)) := by
    have := grown_new2' (w := w) hgrow (by simp)
    exact this
  have hne : g ≠ w.heap.size + 1 := by
    intro e
    subst e
    rcases hown.2 with ⟨e', _⟩ | ⟨g', cap', cur, e', _, hh, _⟩
    · cases e'
    · cases e'
      rw [hb] at hh; cases hh
  refine ⟨some ⟨g, 0, none⟩, cap, Nat.le_refl _, ?_, ?_, ?_⟩
  · have := blk_set (i := 0) (.slice (some ⟨g, 0, none⟩) 2 cap) hb
    simpa using this
  · exact ownsRow_block hown (fun b e => by simp [Value.ownBlock] at e; subst e; exact Below.heap_setCell _ _ _ _ hne)
  · refine Below.setCell ?_ (by simp) _
    exact ((Below.refl _ _).alloc (by simp) _).grown hgrow (by simp) (fun k hk => by cases hk)
/-- The sketch that is written is still there. -/
theorem WrSt.box {w wr : World} {a b c d : Value} {e : TypeId} {p : Nat} {cs : List Nat} (h : WrSt (w.heap.size + 1) p cs (w.alloc (.cells #[a, b, c, d] e)) wr) :
    wr.cell? ⟨w.heap.size, 0, none⟩ = some a ∧ wr.cell? ⟨w.heap.size, 1, none⟩ = some b ∧ wr.cell? ⟨w.heap.size, 2, none⟩ = some c ∧ wr.cell? ⟨w.heap.size, 3, none⟩ = some d ∧ Below w.heap.size w wr ∧ w.heap.size + 1 ≤ wr.heap.size := by
  obtain ⟨ao, cc, h1, h2, h3, h4⟩ := h
  have hz := lt_of_blk' h2
  have h5 : Below (w.alloc (.cells #[a, b, c, d] e)).heap.size (w.alloc (.cells #[a, b, c, d] e)) wr := by simpa using h4
  obtain ⟨b0, b1, b2, b3⟩ := box4 h5
  exact ⟨b0, b1, b2, b3, ((Below.refl _ _).alloc (Nat.le_refl _) _).trans (h4.mono (by omega)), by omega⟩

theorem hdrB_step {L : List Lvl} {j : Nat} (h : j < L.length) : hdrB (L.drop j) = leB 1 (L.getD j Lvl.none).items.length ++ (leB 4 (L.getD j Lvl.none).times ++ hdrB (L.drop (j + 1))) := by
  rw [lv_drop L j h, hdrB]
theorem itemsB_step {L : List Lvl} {j : Nat} (h : j < L.length) : itemsB (L.drop j) = numsB (L.getD j Lvl.none).items ++ itemsB (L.drop (j + 1)) := by
  rw [lv_drop L j h, itemsB]
theorem numsB_step {xs : List Int} {j : Nat} (h : j < xs.length) : numsB (xs.drop j) = leB 8 (u64 (xs.getD j 0)) ++ numsB (xs.drop (j + 1)) := by
  rw [List.drop_eq_getElem_cons h, numsB]; simp [List.getD, h]
theorem u64_nat {n : Nat} (h : n < 18446744073709551616) : u64 (n : Int) = n := by unfold u64; omega

/-- The bytes as a text. -/
theorem conv_txt {w : World} {B n c : Nat} {ao : Option Addr} {bs : List Nat} (h : w.ownsRow B 5 1 (.slice ao n c) n (byts bs)) (hb : ∀ x ∈ bs, x < 256) (hn : 0 < n) : (convert 45 9 (.slice ao n c)).run Try.prog w = .ok (.string (txt bs)) w := by
  obtain ⟨hl, _, hf⟩ := byts_form h
  obtain ⟨g, rfl, _, _⟩ := hf 0 hn
  have := run_convert_bytes_back (P := Try.prog) w 45 9 5 ⟨g, 0, none⟩ c (bs.map UInt8.ofNat) Try.underlying45 Try.underlying5 Try.underlying9 (fun j hj => by
    have hj' : j < n := by simpa [hl] using hj
    obtain ⟨g', e, _, hc⟩ := hf j hj'
    cases e
    rw [Addr.add_lit, Nat.zero_add, hc]
    have hjb : j < bs.length := by omega
    have hx := hb _ (List.getElem_mem hjb)
    simp [List.getD, hjb]
    omega)
  rw [List.length_map, hl] at this
  exact this

set_option maxHeartbeats 2000000 in
set_option maxRecDepth 100000 in
theorem write_any (k g cap : Nat) (lo hi : Int) (vs : List Value) (L : List Lvl) (w : World) (hL : LvAt F w g cap vs L) (hk : k ≤ 64) (hlen : L.length ≤ 29) (hws : wsum L ≤ 268435456) (htm : ∀ j, (L.getD j Lvl.none).times ≤ 549755813888) :
    Calls Try.prog 33 #[skVal k g L.length cap lo hi] w fun e w' => e = .returned (.string (txt (writeB ⟨k, L, lo, hi⟩))) ∧ Below w.heap.size w w' := by
  obtain ⟨i0, hi0, hz0, hz1, hz2⟩ := info_parts Try.infoByte
  have hns := nsum_le L
  have HCO := hid (fun (w' : World) (hb : Below w.heap.size w w') => count_any (F := F) k g cap lo hi vs L w' (hL.below hb) (by omega) (by omega))
  have HLV := hid hL
  generalize hn : L.length = n at *
  have HN := hid hn
  clear hL hn
  go_enter Try.func33, Try.ntmps33
  go_upto_region 3 with (first | (at_builtin; refine Go.Lib.wpList_append_own_string _ rfl (.tmp 14) _ 45 9 rfl (w.heap.size + 1) 5 i0 Try.underlying45 Try.underlying9 hi0 hz0 hz1 hz2 (.slice none 0 0) 0 [] rfl (World.ownsRow_nil _ _ _ _) ⟨#[83, 75]⟩ rfl (by decide) (by decide) (by simp) ?_; intro v1 w1 hown1 hgrow1 hz9; clear hz9; obtain ⟨g1, cap1, rfl, hg1, hgl1⟩ := hown1.form (by decide); obtain ⟨q0, qz⟩ := blk1 (grown_new2' (w := w) hgrow1 (by simp [Value.ownBlock]))))
  have HW1 : Hid (WrSt (w.heap.size + 1) (w.heap.size + 1) [83, 75] (w.alloc (.cells #[.int .i64 (k : Int), .slice (some ⟨g, 0, none⟩) n cap, .int .i64 lo, .int .i64 hi] 77)) (w1.setCell ⟨w.heap.size + 1, 0, none⟩ (.slice (some ⟨g1, 0, none⟩) 2 cap1))) := WrSt.first hown1 hgrow1
  clear hown1 hgrow1 hg1 hgl1 q0 qz
  generalize w1.setCell ⟨w.heap.size + 1, 0, none⟩ (.slice (some ⟨g1, 0, none⟩) 2 cap1) = W1 at *
  have HP := hid (fun (x : Int) (m : Nat) (cs : List Nat) (wx : World) (h : WrSt (w.heap.size + 1) (w.heap.size + 1) cs (w.alloc (.cells #[.int .i64 (k : Int), .slice (some ⟨g, 0, none⟩) n cap, .int .i64 lo, .int .i64 hi] 77)) wx) (hm : m ≤ 8) (hl : cs.length ≤ 1099511627776) => tput_any (w.heap.size + 1) (w.heap.size + 1) m x cs _ wx h hm hl)
  obtain ⟨b0, b1, b2, b3, hbw, hwz⟩ := HW1.out.box
  go_wp2_with fail
  refine (HP.out (k : Int) 1 _ _ HW1.out (by decide) (by simp)).mono ?_
  rintro e w2 ⟨rfl, hw2, hk2⟩
  have HW2 := hid hw2
  clear b0 b1 b2 b3 hbw hwz HW1 hw2 hk2
  obtain ⟨b0, b1, b2, b3, hbw, hwz⟩ := HW2.out.box
  go_wp2_with fail
  refine (HP.out (n : Int) 1 _ _ HW2.out (by decide) (by simp [leB])).mono ?_
  rintro e w3 ⟨rfl, hw3, hk3⟩
  have HW3 := hid hw3
  clear b0 b1 b2 b3 hbw hwz HW2 hw3 hk3
  obtain ⟨b0, b1, b2, b3, hbw, hwz⟩ := HW3.out.box
  have HT1 : Hid (([83, 75] ++ leB 1 (u64 (k : Int)) ++ leB 1 (u64 (n : Int))) ++ hdrB L = [83, 75] ++ leB 1 (u64 (k : Int)) ++ leB 1 (u64 (n : Int)) ++ hdrB L) := rfl
  generalize hP1 : [83, 75] ++ leB 1 (u64 (k : Int)) ++ leB 1 (u64 (n : Int)) = P1 at *
  have HP1 := hid hP1
  have hpl : P1.length = 4 := by rw [← hP1]; simp [leB]
  clear hP1
  go_wp2_with fail
  go_loopw [27] (fun si wr => ∃ (j : Nat) (cs : List Nat), j ≤ n ∧ si = .int .i64 j ∧ cs.length = 4 + 5 * j ∧ Hid (cs ++ hdrB (L.drop j) = P1 ++ hdrB L) ∧ Hid (WrSt (w.heap.size + 1) (w.heap.size + 1) cs (w.alloc (.cells #[.int .i64 (k : Int), .slice (some ⟨g, 0, none⟩) n cap, .int .i64 lo, .int .i64 hi] 77)) wr)) (fun si _ => n - (intOf si).toNat)
  case atStart => exact ⟨0, P1, Nat.zero_le _, rfl, by omega, rfl, HW3⟩
  case round =>
    obtain ⟨j, cs, hj, rfl, hcl, Hc, Hw⟩ := hrel
    clear b0 b1 b2 b3 hbw hwz HW3
    obtain ⟨b0, b1, b2, b3, hbw, hwz⟩ := Hw.out.box
    by_cases hlt : j < n
    · have hlt' : j < L.length := by rw [HN.out]; exact hlt
      have hL2 : LvAt F wr g cap vs L := HLV.out.below hbw
      obtain ⟨ao, cc, ev⟩ := hL2.itemsForm hlt'
      have c0 : wr.cell? ⟨g, j * 2, none⟩ = some (.slice ao (L.getD j Lvl.none).items.length cc) := (hL2.cell0 hlt').trans (by rw [ev])
      have c1 : wr.cell? ⟨g, j * 2 + 1, none⟩ = some (.int .i64 ((L.getD j Lvl.none).times : Int)) := hL2.cell1 hlt'
      have HS := hid (hdrB_step hlt')
      clear ev hL2
      have hm := nsum_at hlt'
      have htj := htm j
      generalize (L.getD j Lvl.none).items.length = m at *
      generalize (L.getD j Lvl.none).times = tm at *
      have HWa := hid (Hw.out.below ((Below.refl wr.heap.size wr).alloc (Nat.le_refl _) (.cells #[.slice ao m cc, .int .i64 (tm : Int)] 125)))
      have hlv := heap_alloc_new wr (.cells #[.slice ao m cc, .int .i64 (tm : Int)] 125)
      have HLVA := hid hlv
      clear hlv
      go_wp2_with fail
      refine (HP.out (m : Int) 1 _ _ HWa.out (by decide) (by omega)).mono ?_
      rintro e w4 ⟨rfl, hw4, hk4⟩
      have hlv4 := (hk4.2 _ _ _ _ HLVA.out (by decide) (by decide)).trans HLVA.out
      obtain ⟨l0, l1, lz⟩ := blk2 hlv4
      have HW4 := hid hw4
      clear b0 b1 b2 b3 hbw hwz c0 c1 hw4 hk4 hlv4
      go_wp2_with fail
      refine (HP.out (tm : Int) 4 _ _ HW4.out (by decide) (by simp [leB]; omega)).mono ?_
      rintro e w5 ⟨rfl, hw5, hk5⟩
      have HW5 := hid hw5
      clear hw5 hk5 l0 l1 lz
      go_wp2_with fail
      go_roundw
      case rel =>
        refine ⟨j + 1, _, by omega, by go_num, ?_, ?_, HW5⟩
        · simp [leB]; omega
        · have := Hc.out
          rw [HS.out] at this
          unfold Hid
          rw [← this, u64_nat (n := m) (by omega), u64_nat (n := tm) (by omega)]
          simp only [List.append_assoc]
      case measure => simp [intOf]; omega
    · have HE : Hid (cs = P1 ++ hdrB L) := by
        have := Hc.out
        rw [List.drop_eq_nil_of_le (by rw [HN.out]; omega), hdrB, List.append_nil] at this
        exact this
      have HEN : Hid (endsB ⟨k, L, lo, hi⟩ = if wsum L = 0 then [] else leB 8 (u64 lo) ++ leB 8 (u64 hi)) := rfl
      have hel : (endsB ⟨k, L, lo, hi⟩).length ≤ 16 := by rw [HEN.out]; split <;> simp [leB_length]
      generalize endsB ⟨k, L, lo, hi⟩ = E at *
      go_upto_if 41 with (go_at_call 66; refine (HCO.out _ hbw).mono ?_; rintro e w6 ⟨rfl, hb6⟩)
      have HW6 := hid (Hw.out.below hb6)
      clear b0 b1 b2 b3 hbw hwz hb6 Hc Hw
      obtain ⟨b0, b1, b2, b3, hbw, hwz⟩ := HW6.out.box
      go_cut [] from 27 (fun we => WrSt (w.heap.size + 1) (w.heap.size + 1) (cs ++ E) (w.alloc (.cells #[.int .i64 (k : Int), .slice (some ⟨g, 0, none⟩) n cap, .int .i64 lo, .int .i64 hi] 77)) we)
      case first =>
        by_cases hw0 : 0 < wsum L
        · have hw0' : decide ((0 : Int) < (wsum L : Int)) = true := by simp; omega
          go_wp2_with fail
          refine (HP.out lo 8 _ _ HW6.out (by decide) (by omega)).mono ?_
          rintro e w7 ⟨rfl, hw7, hk7⟩
          have HW7 := hid hw7
          clear b0 b1 b2 b3 hbw hwz hw7 hk7
          obtain ⟨b0, b1, b2, b3, hbw, hwz⟩ := HW7.out.box
          go_wp2_with fail
          refine (HP.out hi 8 _ _ HW7.out (by decide) (by simp [leB_length]; omega)).mono ?_
          rintro e w8 ⟨rfl, hw8, hk8⟩
          have HW8 := hid hw8
          clear hw8 hk8
          go_wp2_with fail
          go_meet
          have := HW8.out
          rw [List.append_assoc] at this
          rw [HEN.out, if_neg (by omega)]
          exact this
        · have hw0' : decide ((0 : Int) < (wsum L : Int)) = false := by simp; omega
          go_wp2_with fail
          go_meet
          rw [HEN.out, if_pos (by omega), List.append_nil]
          exact HW6.out
      case rest =>
      have HW9 := hid hcut
      clear hcut b0 b1 b2 b3 hbw hwz HW6
      obtain ⟨b0, b1, b2, b3, hbw, hwz⟩ := HW9.out.box
      have HT2 : Hid (cs ++ E ++ itemsB L = bodyB ⟨k, L, lo, hi⟩) := by
        unfold Hid bodyB
        rw [HE.out, ← HP1.out, u64_nat (n := k) (by omega), u64_nat (n := n) (by omega)]
        simp only [HN.out, List.append_assoc, endsB]
        rw [HEN.out]
      have hbl : (bodyB ⟨k, L, lo, hi⟩).length ≤ 4294967296 := by
        rw [bodyB_length]
        simp only [HN.out]
        split <;> omega
      have HBB := hid (bodyB_lt ⟨k, L, lo, hi⟩)
      have HWR := hid (writeB_eq ⟨k, L, lo, hi⟩)
      have HWL := hid (writeB_lt ⟨k, L, lo, hi⟩)
      generalize hWB : writeB ⟨k, L, lo, hi⟩ = WB at *
      have HWBE := hid hWB
      clear hWB
      generalize bodyB ⟨k, L, lo, hi⟩ = BB at *
      generalize cs ++ E = P3 at *
      clear HE HEN hel HP1 HCO
      go_wp2_with fail
      go_loopw [51] (fun si wr => ∃ (j : Nat) (ds : List Nat), j ≤ n ∧ si = .int .i64 j ∧ Hid (ds ++ itemsB (L.drop j) = BB) ∧ Hid (WrSt (w.heap.size + 1) (w.heap.size + 1) ds (w.alloc (.cells #[.int .i64 (k : Int), .slice (some ⟨g, 0, none⟩) n cap, .int .i64 lo, .int .i64 hi] 77)) wr)) (fun si _ => n - (intOf si).toNat)
      case atStart => exact ⟨0, P3, Nat.zero_le _, rfl, HT2, HW9⟩
      case round =>
        obtain ⟨j, ds, hj, rfl, Hd, Hw⟩ := hrel
        clear b0 b1 b2 b3 hbw hwz HW9 HT2
        obtain ⟨b0, b1, b2, b3, hbw, hwz⟩ := Hw.out.box
        by_cases hlt : j < n
        · have hlt' : j < L.length := by rw [HN.out]; exact hlt
          have hL2 : LvAt F wr g cap vs L := HLV.out.below hbw
          obtain ⟨ao, cc, ev, _, _, hno, hso⟩ := (HLV.out.its j hlt').form
          have c0 := hL2.cell0 hlt'
          rw [ev] at c0
          have c1 : wr.cell? ⟨g, j * 2 + 1, none⟩ = some (.int .i64 ((L.getD j Lvl.none).times : Int)) := hL2.cell1 hlt'
          have HS := hid (itemsB_step hlt')
          have HDL : Hid (ds.length ≤ BB.length) := by have := congrArg List.length Hd.out; rw [List.length_append] at this; unfold Hid; omega
          have hm := nsum_at hlt'
          clear ev hL2
          generalize (L.getD j Lvl.none).items = its at *
          generalize hmn : its.length = m at *
          have HM := hid hmn
          have HNO := hid hno
          have HSO := hid hso
          have HBW := hid hbw
          generalize (L.getD j Lvl.none).times = tm at *
          have HWa := hid (Hw.out.below ((Below.refl wr.heap.size wr).alloc (Nat.le_refl _) (.cells #[.slice ao m cc, .int .i64 (tm : Int)] 125)))
          have HBA : Hid (Below wr.heap.size wr (wr.alloc (.cells #[.slice ao m cc, .int .i64 (tm : Int)] 125))) := (Below.refl wr.heap.size wr).alloc (Nat.le_refl _) _
          clear hmn hno hso hbw
          go_wp2_with fail
          go_loopw [58] (fun si wz => ∃ (i : Nat) (es : List Nat), i ≤ m ∧ si = .int .i64 i ∧ Hid (es ++ numsB (its.drop i) = ds ++ numsB its) ∧ Hid (WrSt (w.heap.size + 1) (w.heap.size + 1) es (w.alloc (.cells #[.int .i64 (k : Int), .slice (some ⟨g, 0, none⟩) n cap, .int .i64 lo, .int .i64 hi] 77)) wz)) (fun si _ => m - (intOf si).toNat)
          case atStart => exact ⟨0, ds, Nat.zero_le _, rfl, by simp [Hid], HWa⟩
          case round =>
            obtain ⟨i, es, hi', rfl, He, Hz⟩ := hrel
            clear b0 b1 b2 b3 hwz c0 c1
            obtain ⟨b0, b1, b2, b3, hbz, hwz⟩ := Hz.out.box
            by_cases hil : i < m
            · obtain ⟨gi, rfl⟩ : ∃ g, ao = some ⟨g, 0, none⟩ := by
                cases ao with
                | none => have := (HNO.out rfl).1; rw [this] at HM; have := HM.out; simp at this; omega
                | some a => obtain ⟨g, rfl, _⟩ := HSO.out a rfl; exact ⟨g, rfl⟩
              obtain ⟨gi', e1, hgi, hcc⟩ := HSO.out _ rfl
              cases e1
              have hcell : wr.cell? ⟨gi, i, none⟩ = some (.int .i64 (its.getD i 0)) := (hbz.cell hgi).trans (hcc i hil)
              have HS2 := hid (numsB_step (xs := its) (j := i) (by rw [HM.out]; exact hil))
              have hel : es.length ≤ 1099511627776 := by
                have h1 := congrArg List.length He.out
                have h2 := HDL.out
                have h3 := HM.out
                rw [List.length_append, List.length_append, numsB_length, numsB_length] at h1
                omega
              generalize its.getD i 0 = x at *
              clear hcc
              go_wp2_with fail
              refine (HP.out x 8 _ _ Hz.out (by decide) hel).mono ?_
              rintro e w12 ⟨rfl, hw12, hk12⟩
              have HW12 := hid hw12
              clear hw12 hk12 b0 b1 b2 b3 hbz hwz
              go_wp2_with fail
              go_roundw
              case rel =>
                refine ⟨i + 1, _, by omega, by go_num, ?_, HW12⟩
                have := He.out
                rw [HS2.out] at this
                unfold Hid
                rw [← this, List.append_assoc]
              case measure => simp [intOf]; omega
            · have HEE : Hid (es = ds ++ numsB its) := by
                have := He.out
                rw [List.drop_eq_nil_of_le (by rw [HM.out]; omega), numsB, List.append_nil] at this
                exact this
              go_wp2_with fail
              go_roundw
              case rel =>
                refine ⟨j + 1, es, by omega, by go_num, ?_, Hz⟩
                have := Hd.out
                rw [HS.out] at this
                unfold Hid
                rw [HEE.out, ← this, List.append_assoc]
              case measure => simp [intOf]; omega
        · have HE2 : Hid (ds = BB) := by
            have := Hd.out
            rw [List.drop_eq_nil_of_le (by rw [HN.out]; omega), itemsB, List.append_nil] at this
            exact this
          have HWB : Hid (WrSt (w.heap.size + 1) (w.heap.size + 1) BB (w.alloc (.cells #[.int .i64 (k : Int), .slice (some ⟨g, 0, none⟩) n cap, .int .i64 lo, .int .i64 hi] 77)) wr) := by have := Hw.out; rw [HE2.out] at this; exact this
          have hA := ckA_lt BB
          have hC := ckB_lt BB 0 0 (by decide)
          have HCK := hid (check_any _ _ BB _ wr HWB.out HBB.out)
          generalize ckA BB 0 = ca at *
          generalize ckB BB 0 0 = cb at *
          clear b0 b1 b2 b3 hbw hwz Hd Hw HE2
          go_wp2_with fail
          refine HCK.out.mono ?_
          rintro e w9 ⟨rfl, hw9⟩
          obtain rfl := hw9.symm
          clear HCK
          go_wp2_with fail
          refine (HP.out (ca : Int) 1 _ _ HWB.out (by decide) (by omega)).mono ?_
          rintro e w10 ⟨rfl, hw10, hk10⟩
          have HW10 := hid hw10
          clear hw10 hk10
          go_wp2_with fail
          refine (HP.out (cb : Int) 1 _ _ HW10.out (by decide) (by simp [leB_length]; omega)).mono ?_
          rintro e w11 ⟨rfl, hw11, hk11⟩
          have HF : Hid (WrSt (w.heap.size + 1) (w.heap.size + 1) WB (w.alloc (.cells #[.int .i64 (k : Int), .slice (some ⟨g, 0, none⟩) n cap, .int .i64 lo, .int .i64 hi] 77)) w11) := by
            have := hw11
            rw [u64_nat (n := ca) (by omega), u64_nat (n := cb) (by omega)] at this
            unfold Hid
            rw [HWR.out]
            simpa [leB, Nat.mod_eq_of_lt hA, Nat.mod_eq_of_lt hC] using this
          have hwl : 0 < WB.length := by rw [HWR.out]; simp
          obtain ⟨aof, cf, hpf, hbf, hrf, hlf⟩ := HF.out
          have hcv := conv_txt hrf HWL.out hwl
          obtain ⟨f0, fz⟩ := blk1 hbf
          have HLF := hid (((Below.refl _ _).alloc (Nat.le_refl _) _).trans (hlf.mono (by omega)))
          clear hw11 hk11 hpf hbf hrf hlf
          go_wp2_with fail
          go_ret
          exact ⟨by rw [HWBE.out]; rfl, HLF.out⟩

end Go.Proofs.Ytklicjbpjigfdab
