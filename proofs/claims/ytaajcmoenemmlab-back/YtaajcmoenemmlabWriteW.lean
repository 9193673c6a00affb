/- DERIVED. The walks of the text's writer: put, check. -/
import Derived.Test.YtaajcmoenemmlabMn
import Derived.Test.YtaajcmoenemmlabLvW
import Derived.Deep.AppendLies
import Derived.Lib.AppendStr
import Derived.Laws.IdiomStrings
namespace Go.Proofs.Ytaajcmoenemmlab
open Go.RowKit

theorem Try.infoByte : (Try.prog.info? 5).map (fun i => (i.zero, i.size, i.bytes)) = some (some (.int .u8 0), 1, 1) := by kernel_rfl

/-- The cells of a list of bytes. -/
def byts (bs : List Nat) : List Value := bs.map fun (b : Nat) => Value.int .u8 (b : Int)
theorem byts_snoc (bs : List Nat) (b : Nat) : byts bs ++ [Value.int .u8 (b : Int)] = byts (bs ++ [b]) := by simp [byts]

/-- A text, as far as it is written, lies behind block p; all that has turned since w0 is above B. -/
def WrSt (B p : Nat) (bs : List Nat) (w0 w : World) : Prop :=
  ∃ ao c, B ≤ p ∧ w.heap[p]? = some (.cells #[.slice ao bs.length c] 93 (0, 0)) ∧ w.ownsRow B 5 1 (.slice ao bs.length c) bs.length (byts bs) ∧ Below B w0 w
theorem WrSt.below {B p : Nat} {bs : List Nat} {w0 w w' : World} (h : WrSt B p bs w0 w) (hb : Below w.heap.size w w') : WrSt B p bs w0 w' := by
  obtain ⟨ao, c, h1, h2, h3, h4⟩ := h
  exact ⟨ao, c, h1, (hb.block p (lt_of_blk' h2)).trans h2, ownsRow_below h3 hb (fun g hg => ownsRow_lt h3 hg), h4.trans (hb.mono (by have := lt_of_blk' h2; omega))⟩
theorem blk1 {w : World} {r : Nat} {a : Value} {e : TypeId} (h : w.heap[r]? = some (.cells #[a] e (0, 0))) :
    w.cell? ⟨r, 0, none⟩ = some a ∧ (∀ o, w.frozen? ⟨r, o, none⟩ = false) := by
  refine ⟨?_, fun o => ?_⟩ <;> simp [World.cell?, World.frozen?, h]

theorem WrSt.apart {B p c : Nat} {ao : Option Addr} {n : Nat} {xs : List Value} {w : World} (hb : w.heap[p]? = some (.cells #[.slice ao n c] 93 (0, 0))) (hr : w.ownsRow B 5 1 (.slice ao n c) n xs) : (Value.slice ao n c).ownBlock ≠ some p := by
  intro e
  rcases hr.2 with ⟨e', _⟩ | ⟨g', cap', cur, e', _, hh, _⟩
  · rw [e'] at e; simp [Value.ownBlock] at e
  · rw [e'] at e; simp [Value.ownBlock] at e; subst e
    rw [hb] at hh; cases hh
/-- All but texts that are being written is kept. -/
def TxKept (w w' : World) : Prop := w.heap.size ≤ w'.heap.size ∧ ∀ (b : Nat) (cc : Array Value) (t : TypeId) (fr : Nat × Nat), w.heap[b]? = some (.cells cc t fr) → t ≠ 93 → t ≠ 5 → w'.heap[b]? = w.heap[b]?
theorem TxKept.refl (w : World) : TxKept w w := ⟨Nat.le_refl _, fun _ _ _ _ _ _ _ => rfl⟩
theorem TxKept.trans {a b c : World} (h : TxKept a b) (k : TxKept b c) : TxKept a c :=
  ⟨Nat.le_trans h.1 k.1, fun x cc t fr hx h1 h2 => (k.2 x cc t fr ((h.2 x cc t fr hx h1 h2).trans hx) h1 h2).trans (h.2 x cc t fr hx h1 h2)⟩
theorem TxKept.more {B p n c : Nat} {ao : Option Addr} {xs : List Value} {o : Obj} {w w2 : World} {v : Value} (hb : w.heap[p]? = some (.cells #[.slice ao n c] 93 (0, 0))) (hr : w.ownsRow B 5 1 (.slice ao n c) n xs) (hgrow : (w.alloc o).grownBy w2 (Value.slice ao n c).ownBlock) :
    TxKept w (w2.setCell ⟨p, 0, none⟩ v) := by
  refine ⟨by rw [setCell_size]; have := hgrow.size; simp at this; omega, fun b cc t fr hx h1 h2 => ?_⟩
  have hz := lt_of_blk' hx
  rw [Below.heap_setCell _ _ _ _ (fun e => ?_), hgrow.block b (by simp; omega) (fun e => ?_), Below.heap_alloc _ _ _ hz]
  · rcases hr.2 with ⟨e', _⟩ | ⟨g', cap', cur, e', _, hh, _⟩
    · rw [e'] at e; simp [Value.ownBlock] at e
    · rw [e'] at e; simp [Value.ownBlock] at e; subst e
      rw [hx] at hh; cases hh; exact h2 rfl
  · subst e; rw [hx] at hb; cases hb; exact h1 rfl

/-- A byte more. -/
theorem WrSt.more {B p g2 cap2 c : Nat} {ao : Option Addr} {bs : List Nat} {b : Nat} {o : Obj} {w0 w w2 : World} (hp : B ≤ p) (hb : w.heap[p]? = some (.cells #[.slice ao bs.length c] 93 (0, 0))) (hr : w.ownsRow B 5 1 (.slice ao bs.length c) bs.length (byts bs)) (hbel : Below B w0 w)
    (hown : w2.ownsRow B 5 1 (.slice (some ⟨g2, 0, none⟩) (bs.length + 1) cap2) (bs.length + 1) (byts bs ++ [.int .u8 (b : Int)])) (hgrow : (w.alloc o).grownBy w2 (Value.slice ao bs.length c).ownBlock) (hat : (Value.slice ao bs.length c).ownBlock = some g2 ∨ w.heap.size ≤ g2) :
    WrSt B p (bs ++ [b]) w0 (w2.setCell ⟨p, 0, none⟩ (.slice (some ⟨g2, 0, none⟩) (bs.length + 1) cap2)) := by
  have hpz := lt_of_blk' hb
  have hne : ∀ c', (Value.slice ao bs.length c).ownBlock = some c' → c' ≠ p := by
    intro c' e e'
    subst e'
    rcases hr.2 with ⟨e', _⟩ | ⟨g', cap', cur, e', _, hh, _⟩
    · rw [e'] at e; simp [Value.ownBlock] at e
    · rw [e'] at e; simp [Value.ownBlock] at e; subst e
      rw [hb] at hh; cases hh
  have hg2 : g2 ≠ p := by
    rcases hat with e | e
    · exact hne _ e
    · omega
  have hb2 : w2.heap[p]? = some (.cells #[.slice ao bs.length c] 93 (0, 0)) := (hgrow.block p (by simp; omega) (fun e => hne p e.symm rfl)).trans ((Below.heap_alloc _ _ _ hpz).trans hb)
  refine ⟨some ⟨g2, 0, none⟩, cap2, hp, ?_, ?_, ?_⟩
  · have := blk_set (i := 0) (.slice (some ⟨g2, 0, none⟩) (bs.length + 1) cap2) hb2
    simpa using this
  · rw [byts_snoc] at hown
    simp only [List.length_append, List.length_singleton]
    exact ownsRow_block hown (fun g e => by simp [Value.ownBlock] at e; subst e; exact Below.heap_setCell _ _ _ _ hg2)
  · refine Below.setCell ?_ hp _
    refine (hbel.alloc (by omega) _).grown hgrow (by simp; omega) (fun k hk => ?_)
    exact (hr.lt k hk).1

theorem wrapU64 (x : Int) : IntKind.u64.wrap x = ((u64 x : Nat) : Int) := by
  have : IntKind.u64.wrap x = x % 18446744073709551616 := by simp [IntKind.wrap, IntKind.bits, IntKind.signed]
  rw [this]; unfold u64; omega

set_option maxHeartbeats 1000000 in
set_option maxRecDepth 100000 in
theorem tput_any (B p n : Nat) (x : Int) (bs : List Nat) (w0 w : World) (h : WrSt B p bs w0 w) (hn : n ≤ 8) (hl : bs.length ≤ 1099511627776) :
    Calls Try.prog 44 #[.pointer (some ⟨p, 0, none⟩), .int .i64 x, .int .i64 (n : Int)] w fun e w' => e = .returned (.tuple #[]) ∧ WrSt B p (bs ++ leB n (u64 x)) w0 w' ∧ TxKept w w' := by
  obtain ⟨i0, hi0, hz0, hz1, hz2⟩ := info_parts Try.infoByte
  have HW := hid h
  have hu := u64_lt x
  have hB : B ≤ w.heap.size := by obtain ⟨_, _, h1, h2, _, _⟩ := h; have := lt_of_blk' h2; omega
  generalize hT : bs ++ leB n (u64 x) = T at *
  have HT := hid hT
  clear h hT
  go_enter Try.func44, Try.ntmps44
  go_wp2_with fail
  go_loopw [6, 7] (fun sr si wr => ∃ (j r : Nat) (cs : List Nat), j ≤ n ∧ sr = .int .u64 (r : Int) ∧ si = .int .i64 j ∧ r < 18446744073709551616 ∧ cs.length ≤ 1099511627776 + j ∧ Hid (cs ++ leB (n - j) r = T) ∧ Hid (WrSt B p cs w0 wr) ∧ Hid (TxKept w wr)) (fun _ si _ => n - (intOf si).toNat)
  case atStart => exact ⟨0, u64 x, bs, Nat.zero_le _, by rw [wrapU64], rfl, hu, hl, HT, HW, TxKept.refl _⟩
  case round =>
    obtain ⟨j, r, cs, hj, rfl, rfl, hr, hcl, Hc, Hw, Hk⟩ := hrel
    by_cases hlt : j < n
    · obtain ⟨ao, c, hp, hb, hrow, hbel⟩ := Hw.out
      obtain ⟨c0, cz⟩ := blk1 hb
      have HR := hid hrow
      have HB := hid hb
      have HL := hid hbel
      have hsz : B ≤ wr.heap.size := by have := lt_of_blk' hb; omega
      have HD : Hid (cs ++ [r % 256] ++ leB (n - (j + 1)) (r / 256) = T) := by
        have := Hc.out
        rw [show n - j = (n - (j + 1)) + 1 by omega, leB] at this
        unfold Hid
        rw [← this]; simp
      have HNE := hid (WrSt.apart hb hrow)
      have hpz := lt_of_blk' hb
      clear hrow hb hbel
      go_wp2_with (at_builtin; refine wpList_append_lies _ rfl (.tmp 19) (.tmp 23) 45 rfl B 5 i0 (.int .u8 0) 1 1 Try.underlying45 hi0 hz0 hz1 hz2 rfl (by decide) (.slice ao cs.length c) cs.length (byts cs) rfl (HR.out.alloc _) ⟨wr.heap.size, 0, none⟩ 1 1 [.int .u8 ((r : Int) % 256)] rfl rfl (one_new _ _ _) (one_cell _ _) (by decide) (by unfold maxLen; omega) (by omega) (by simp; omega) (wr.heap.size + 1) (by simp) ?_; intro g2 cap2 w2 hown2 hgrow2 hat2 hlt2; have hq := (hgrow2.block p (by simp; omega) (Ne.symm HNE.out)).trans ((Below.heap_alloc _ _ p hpz).trans HB.out); obtain ⟨q0, qz⟩ := blk1 hq)
      have HST := hid (WrSt.more (b := r % 256) hp HB.out HR.out HL.out (by simpa using hown2) hgrow2 (hat2.imp id (fun e => by omega)))
      have HKT := hid (Hk.out.trans (TxKept.more (v := .slice (some ⟨g2, 0, none⟩) (cs.length + 1) cap2) HB.out HR.out hgrow2))
      clear hown2 hgrow2 hat2 hlt2 hq
      go_roundw
      case rel => exact ⟨j + 1, r / 256, cs ++ [r % 256], by omega, by simp, by go_num, by omega, by simp; omega, HD, HST, HKT⟩
      case measure => simp [intOf]; omega
    · have HE : Hid (cs = T) := by have := Hc.out; rw [show n - j = 0 by omega, leB, List.append_nil] at this; exact this
      go_wp2
      go_end0
      refine ⟨rfl, ?_, Hk.out⟩
      have := Hw.out
      rw [HE.out] at this
      exact this

theorem byts_form {w : World} {B n c : Nat} {ao : Option Addr} {bs : List Nat} (h : w.ownsRow B 5 1 (.slice ao n c) n (byts bs)) : bs.length = n ∧ n ≤ maxLen ∧ ∀ t, t < n → ∃ g, ao = some ⟨g, 0, none⟩ ∧ g < w.heap.size ∧ w.cell? ⟨g, t, none⟩ = some (.int .u8 ((bs.getD t 0 : Nat) : Int)) := by
  have h' := h
  have hl : bs.length = n := by have := h.1; simpa [byts] using this
  refine ⟨hl, ?_⟩
  rcases h.2 with ⟨e, hn⟩ | ⟨g, cap, cur, e, hg, hh, hnc, hcm, hcs, ht⟩
  · exact ⟨by rw [hn]; exact Nat.zero_le _, fun t ht => by omega⟩
  · cases e
    refine ⟨by omega, fun t ht => ⟨g, rfl, ownsRow_lt h' rfl, ownsRow_cell h' ?_⟩⟩
    simp [byts, List.getD, hl, ht]

theorem ck_drop {bs : List Nat} {j : Nat} (h : j < bs.length) : bs.drop j = bs.getD j 0 :: bs.drop (j + 1) := by
  rw [List.drop_eq_getElem_cons h]; simp [List.getD, h]

set_option maxHeartbeats 1000000 in
theorem check_any (B p : Nat) (bs : List Nat) (w0 w : World) (h : WrSt B p bs w0 w) (hbs : ∀ x ∈ bs, x < 256) :
    Calls Try.prog 46 #[.pointer (some ⟨p, 0, none⟩)] w fun e w' => e = .returned (.tuple #[.int .i64 ((ckA bs 0 : Nat) : Int), .int .i64 ((ckB bs 0 0 : Nat) : Int)]) ∧ w' = w := by
  obtain ⟨ao, c, hp, hb, hrow, hbel⟩ := h
  obtain ⟨hl, hm, hf⟩ := byts_form hrow
  unfold maxLen at hm
  obtain ⟨c0, cz⟩ := blk1 hb
  have HF := hid hf
  have HBS := hid hbs
  generalize hn : bs.length = n at *
  have HN := hid hn
  clear hb hrow hbel hf hbs hn hl
  go_enter Try.func46, Try.ntmps46
  go_wp2_with fail
  go_loop [4, 5, 13] (fun sa sc si => ∃ j a c : Nat, j ≤ n ∧ sa = .int .i64 (a : Int) ∧ sc = .int .i64 (c : Int) ∧ si = .int .i64 j ∧ a < 256 ∧ c < 256 ∧ Hid (ckA (bs.drop j) a = ckA bs 0) ∧ Hid (ckB (bs.drop j) a c = ckB bs 0 0)) (fun _ _ si => n - (intOf si).toNat)
  case atStart => exact ⟨0, 0, 0, Nat.zero_le _, rfl, rfl, rfl, by decide, by decide, rfl, rfl⟩
  case round =>
    obtain ⟨j, a, k, hj, rfl, rfl, rfl, ha, hk, HA, HK⟩ := hrel
    by_cases hlt : j < n
    · obtain ⟨g, rfl, hg, hcell⟩ := HF.out j hlt
      have HD := hid (ck_drop (bs := bs) (j := j) (by rw [HN.out]; exact hlt))
      have hbd : bs.getD j 0 < 256 := by
        have : j < bs.length := by rw [HN.out]; exact hlt
        rw [List.getD_eq_getElem?_getD, List.getElem?_eq_getElem this]
        exact HBS.out _ (List.getElem_mem this)
      generalize bs.getD j 0 = b at *
      go_wp2
      go_round
      case rel =>
        refine ⟨j + 1, (a + b) % 256, (k + (a + b) % 256) % 256, by omega, by simp, by simp, by go_num, by omega, by omega, ?_, ?_⟩
        · have := HA.out; rw [HD.out, ckA] at this; exact this
        · have := HK.out; rw [HD.out, ckB] at this; exact this
      case measure => simp [intOf]; omega
    · have HE : Hid (a = ckA bs 0 ∧ k = ckB bs 0 0) := by
        have h1 := HA.out
        have h2 := HK.out
        rw [List.drop_eq_nil_of_le (by rw [HN.out]; omega)] at h1 h2
        exact ⟨h1, h2⟩
      go_wp2
      go_ret2
      exact ⟨by rw [HE.out.1, HE.out.2]; rfl, rfl⟩

end Go.Proofs.Ytaajcmoenemmlab
