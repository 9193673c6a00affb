/- DERIVED. The walks of the text's writer: put, check. -/
import Derived.Test.YtklicjbpjigfdabGreatQ10
import Derived.Test.YtklicjbpjigfdabGreatQ1
import Derived.Deep.AppendLies
import Derived.Lib.AppendStr
import Derived.Laws.IdiomStrings
import Derived.Test.YtklicjbpjigfdabGreatQ8
import Derived.Deep.DrawnRows
import Derived.Test.YtklicjbpjigfdabGreatQ2
import Derived.Test.YtklicjbpjigfdabGreatQ3
import Derived.Deep.RegionWith
import Derived.Deep.Cut
import Derived.Deep.CutRange
namespace Go.Proofs.YtklicjbpjigfdabGreat
open Go.RowKit

theorem Tryz.infoByte : (Tryz.prog.info? 5).map (fun i => (i.zero, i.size, i.bytes)) = some (some (.int .u8 0), 1, 1) := by kernel_rfl

/-- The cells of a list of bytes. -/
def byts (bs : List Nat) : List Value := bs.map fun (b : Nat) => Value.int .u8 (b : Int)
theorem byts_snoc (bs : List Nat) (b : Nat) : byts bs ++ [Value.int .u8 (b : Int)] = byts (bs ++ [b]) := by simp [byts]

/-- A text, as far as it is written, lies behind block p; all that has turned since w0 is above B. -/
def WrSt (B p : Nat) (bs : List Nat) (w0 w : World) : Prop :=
  ∃ ao c, B ≤ p ∧ w.heap[p]? = some (.cells #[.slice ao bs.length c] 169 (0, 0)) ∧ w.ownsRow B 5 1 (.slice ao bs.length c) bs.length (byts bs) ∧ Below B w0 w
theorem WrSt.below {B p : Nat} {bs : List Nat} {w0 w w' : World} (h : WrSt B p bs w0 w) (hb : Below w.heap.size w w') : WrSt B p bs w0 w' := by
  obtain ⟨ao, c, h1, h2, h3, h4⟩ := h
  exact ⟨ao, c, h1, (hb.block p (lt_of_blk' h2)).trans h2, ownsRow_below h3 hb (fun g hg => ownsRow_lt h3 hg), h4.trans (hb.mono (by have := lt_of_blk' h2; omega))⟩
theorem blk1 {w : World} {r : Nat} {a : Value} {e : TypeId} (h : w.heap[r]? = some (.cells #[a] e (0, 0))) :
    w.cell? ⟨r, 0, none⟩ = some a ∧ (∀ o, w.frozen? ⟨r, o, none⟩ = false) := by
  refine ⟨?_, fun o => ?_⟩ <;> simp [World.cell?, World.frozen?, h]

theorem WrSt.apart {B p c : Nat} {ao : Option Addr} {n : Nat} {xs : List Value} {w : World} (hb : w.heap[p]? = some (.cells #[.slice ao n c] 169 (0, 0))) (hr : w.ownsRow B 5 1 (.slice ao n c) n xs) : (Value.slice ao n c).ownBlock ≠ some p := by
  intro e
  rcases hr.2 with ⟨e', _⟩ | ⟨g', cap', cur, e', _, hh, _⟩
  · rw [e'] at e; simp [Value.ownBlock] at e
  · rw [e'] at e; simp [Value.ownBlock] at e; subst e
    rw [hb] at hh; cases hh
/-- All but texts that are being written is kept. -/
def TxKept (w w' : World) : Prop := w.heap.size ≤ w'.heap.size ∧ ∀ (b : Nat) (cc : Array Value) (t : TypeId) (fr : Nat × Nat), w.heap[b]? = some (.cells cc t fr) → t ≠ 169 → t ≠ 5 → w'.heap[b]? = w.heap[b]?
theorem TxKept.refl (w : World) : TxKept w w := ⟨Nat.le_refl _, fun _ _ _ _ _ _ _ => rfl⟩
theorem TxKept.trans {a b c : World} (h : TxKept a b) (k : TxKept b c) : TxKept a c :=
  ⟨Nat.le_trans h.1 k.1, fun x cc t fr hx h1 h2 => (k.2 x cc t fr ((h.2 x cc t fr hx h1 h2).trans hx) h1 h2).trans (h.2 x cc t fr hx h1 h2)⟩
theorem TxKept.more {B p n c : Nat} {ao : Option Addr} {xs : List Value} {o : Obj} {w w2 : World} {v : Value} (hb : w.heap[p]? = some (.cells #[.slice ao n c] 169 (0, 0))) (hr : w.ownsRow B 5 1 (.slice ao n c) n xs) (hgrow : (w.alloc o).grownBy w2 (Value.slice ao n c).ownBlock) :
    TxKept w (w2.setCell ⟨p, 0, none⟩ v) := by
  refine ⟨by rw [setCell_size]; have := hgrow.size; simp at this; omega, fun b cc t fr hx h1 h2 => ?_⟩
  have hz := lt_of_blk' hx
  rw [Below.heap_setCell _ _ _ _ (fun e => ?_), hgrow.block b (by simp; omega) (fun e => ?_), Below.heap_alloc _ _ _ hz]
  · rcases hr.2 with ⟨e', _⟩ | ⟨g', cap', cur, e', _, hh, _⟩
    · rw [e'] at e; simp [Value.ownBlock] at e
    · rw [e'] at e; simp [Value.ownBlock] at e; subst e
      rw [hx] at hh; cases hh; exact h2 rfl
  · subst e; rw [hx] at hb; cases hb; exact h1 rfl

/-- A byte more. -/
theorem WrSt.more {B p g2 cap2 c : Nat} {ao : Option Addr} {bs : List Nat} {b : Nat} {o : Obj} {w0 w w2 : World} (hp : B ≤ p) (hb : w.heap[p]? = some (.cells #[.slice ao bs.length c] 169 (0, 0))) (hr : w.ownsRow B 5 1 (.slice ao bs.length c) bs.length (byts bs)) (hbel : Below B w0 w)
    (hown : w2.ownsRow B 5 1 (.slice (some ⟨g2, 0, none⟩) (bs.length + 1) cap2) (bs.length + 1) (byts bs ++ [.int .u8 (b : Int)])) (hgrow : (w.alloc o).grownBy w2 (Value.slice ao bs.length c).ownBlock) (hat : (Value.slice ao bs.length c).ownBlock = some g2 ∨ w.heap.size ≤ g2) :
    WrSt B p (bs ++ [b]) w0 (w2.setCell ⟨p, 0, none⟩ (.slice (some ⟨g2, 0, none⟩) (bs.length + 1) cap2)) := by
  have hpz := lt_of_blk' hb
  have hne : ∀ c', (Value.slice ao bs.length c).ownBlock = some c' → c' ≠ p := by
    intro c' e e'
    subst e'
    rcases hr.2 with ⟨e', _⟩ | ⟨g', cap', cur, e', _, hh, _⟩
    · rw [e'] at e; simp [Value.ownBlock] at e
    · rw [e'] at e; simp [Value.ownBlock] at e; subst e
      rw [hb] at hh; cases hh
  have hg2 : g2 ≠ p := by
    rcases hat with e | e
    · exact hne _ e
    · omega
  have hb2 : w2.heap[p]? = some (.cells #[.slice ao bs.length c] 169 (0, 0)) := (hgrow.block p (by simp; omega) (fun e => hne p e.symm rfl)).trans ((Below.heap_alloc _ _ _ hpz).trans hb)
  refine ⟨some ⟨g2, 0, none⟩, cap2, hp, ?_, ?_, ?_⟩
  · have := blk_set (i := 0) (.slice (some ⟨g2, 0, none⟩) (bs.length + 1) cap2) hb2
    simpa using this
  · rw [byts_snoc] at hown
    simp only [List.length_append, List.length_singleton]
    exact ownsRow_block hown (fun g e => by simp [Value.ownBlock] at e; subst e; exact Below.heap_setCell _ _ _ _ hg2)
  · refine Below.setCell ?_ hp _
    refine (hbel.alloc (by omega) _).grown hgrow (by simp; omega) (fun k hk => ?_)
    exact (hr.lt k hk).1

theorem wrapU64 (x : Int) : IntKind.u64.wrap x = ((u64 x : Nat) : Int) := by
  have : IntKind.u64.wrap x = x % 18446744073709551616 := by simp [IntKind.wrap, IntKind.bits, IntKind.signed]
  rw [this]; unfold u64; omega

set_option maxHeartbeats 1000000 in
set_option maxRecDepth 100000 in
theorem tput_any (B p n : Nat) (x : Int) (bs : List Nat) (w0 w : World) (h : WrSt B p bs w0 w) (hn : n ≤ 8) (hl : bs.length ≤ 1099511627776) :
    Calls Tryz.prog 103 #[.pointer (some ⟨p, 0, none⟩), .int .i64 x, .int .i64 (n : Int)] w fun e w' => e = .returned (.tuple #[]) ∧ WrSt B p (bs ++ leB n (u64 x)) w0 w' ∧ TxKept w w' := by
  obtain ⟨i0, hi0, hz0, hz1, hz2⟩ := info_parts Tryz.infoByte
  have HW := hid h
  have hu := u64_lt x
  have hB : B ≤ w.heap.size := by obtain ⟨_, _, h1, h2, _, _⟩ := h; have := lt_of_blk' h2; omega
  generalize hT : bs ++ leB n (u64 x) = T at *
  have HT := hid hT
  clear h hT
  go_enter Tryz.func103, Tryz.ntmps103
  go_wp2_with fail
  go_loopw [6, 7] (fun sr si wr => ∃ (j r : Nat) (cs : List Nat), j ≤ n ∧ sr = .int .u64 (r : Int) ∧ si = .int .i64 j ∧ r < 18446744073709551616 ∧ cs.length ≤ 1099511627776 + j ∧ Hid (cs ++ leB (n - j) r = T) ∧ Hid (WrSt B p cs w0 wr) ∧ Hid (TxKept w wr)) (fun _ si _ => n - (intOf si).toNat)
  case atStart => exact ⟨0, u64 x, bs, Nat.zero_le _, by rw [wrapU64], rfl, hu, hl, HT, HW, TxKept.refl _⟩
  case round =>
    obtain ⟨j, r, cs, hj, rfl, rfl, hr, hcl, Hc, Hw, Hk⟩ := hrel
    by_cases hlt : j < n
    · obtain ⟨ao, c, hp, hb, hrow, hbel⟩ := Hw.out
      obtain ⟨c0, cz⟩ := blk1 hb
      have HR := hid hrow
      have HB := hid hb
      have HL := hid hbel
      have hsz : B ≤ wr.heap.size := by have := lt_of_blk' hb; omega
      have HD : Hid (cs ++ [r % 256] ++ leB (n - (j + 1)) (r / 256) = T) := by
        have := Hc.out
        rw [show n - j = (n - (j + 1)) + 1 by omega, leB] at this
        unfold Hid
        rw [← this]; simp
      have HNE := hid (WrSt.apart hb hrow)
      have hpz := lt_of_blk' hb
      clear hrow hb hbel
      go_wp2_with (at_builtin; refine wpList_append_lies _ rfl (.tmp 19) (.tmp 23) 167 rfl B 5 i0 (.int .u8 0) 1 1 Tryz.underlying167 hi0 hz0 hz1 hz2 rfl (by decide) (.slice ao cs.length c) cs.length (byts cs) rfl (HR.out.alloc _) ⟨wr.heap.size, 0, none⟩ 1 1 [.int .u8 ((r : Int) % 256)] rfl rfl (one_new _ _ _) (one_cell _ _) (by decide) (by unfold maxLen; omega) (by omega) (by simp; omega) (wr.heap.size + 1) (by simp) ?_; intro g2 cap2 w2 hown2 hgrow2 hat2 hlt2; have hq := (hgrow2.block p (by simp; omega) (Ne.symm HNE.out)).trans ((Below.heap_alloc _ _ p hpz).trans HB.out); obtain ⟨q0, qz⟩ := blk1 hq)
      have HST := hid (WrSt.more (b := r % 256) hp HB.out HR.out HL.out (by simpa using hown2) hgrow2 (hat2.imp id (fun e => by omega)))
      have HKT := hid (Hk.out.trans (TxKept.more (v := .slice (some ⟨g2, 0, none⟩) (cs.length + 1) cap2) HB.out HR.out hgrow2))
      clear hown2 hgrow2 hat2 hlt2 hq
      go_roundw
      case rel => exact ⟨j + 1, r / 256, cs ++ [r % 256], by omega, by simp, by go_num, by omega, by simp; omega, HD, HST, HKT⟩
      case measure => simp [intOf]; omega
    · have HE : Hid (cs = T) := by have := Hc.out; rw [show n - j = 0 by omega, leB, List.append_nil] at this; exact this
      go_wp2
      go_end0
      refine ⟨rfl, ?_, Hk.out⟩
      have := Hw.out
      rw [HE.out] at this
      exact this

theorem byts_form {w : World} {B n c : Nat} {ao : Option Addr} {bs : List Nat} (h : w.ownsRow B 5 1 (.slice ao n c) n (byts bs)) : bs.length = n ∧ n ≤ maxLen ∧ ∀ t, t < n → ∃ g, ao = some ⟨g, 0, none⟩ ∧ g < w.heap.size ∧ w.cell? ⟨g, t, none⟩ = some (.int .u8 ((bs.getD t 0 : Nat) : Int)) := by
  have h' := h
  have hl : bs.length = n := by have := h.1; simpa [byts] using this
  refine ⟨hl, ?_⟩
  rcases h.2 with ⟨e, hn⟩ | ⟨g, cap, cur, e, hg, hh, hnc, hcm, hcs, ht⟩
  · exact ⟨by rw [hn]; exact Nat.zero_le _, fun t ht => by omega⟩
  · cases e
    refine ⟨by omega, fun t ht => ⟨g, rfl, ownsRow_lt h' rfl, ownsRow_cell h' ?_⟩⟩
    simp [byts, List.getD, hl, ht]

theorem ck_drop {bs : List Nat} {j : Nat} (h : j < bs.length) : bs.drop j = bs.getD j 0 :: bs.drop (j + 1) := by
  rw [List.drop_eq_getElem_cons h]; simp [List.getD, h]

set_option maxHeartbeats 1000000 in
theorem check_any (B p : Nat) (bs : List Nat) (w0 w : World) (h : WrSt B p bs w0 w) (hbs : ∀ x ∈ bs, x < 256) :
    Calls Tryz.prog 104 #[.pointer (some ⟨p, 0, none⟩)] w fun e w' => e = .returned (.tuple #[.int .i64 ((ckA bs 0 : Nat) : Int), .int .i64 ((ckB bs 0 0 : Nat) : Int)]) ∧ w' = w := by
  obtain ⟨ao, c, hp, hb, hrow, hbel⟩ := h
  obtain ⟨hl, hm, hf⟩ := byts_form hrow
  unfold maxLen at hm
  obtain ⟨c0, cz⟩ := blk1 hb
  have HF := hid hf
  have HBS := hid hbs
  generalize hn : bs.length = n at *
  have HN := hid hn
  clear hb hrow hbel hf hbs hn hl
  go_enter Tryz.func104, Tryz.ntmps104
  go_wp2_with fail
  go_loop [4, 5, 13] (fun sa sc si => ∃ j a c : Nat, j ≤ n ∧ sa = .int .i64 (a : Int) ∧ sc = .int .i64 (c : Int) ∧ si = .int .i64 j ∧ a < 256 ∧ c < 256 ∧ Hid (ckA (bs.drop j) a = ckA bs 0) ∧ Hid (ckB (bs.drop j) a c = ckB bs 0 0)) (fun _ _ si => n - (intOf si).toNat)
  case atStart => exact ⟨0, 0, 0, Nat.zero_le _, rfl, rfl, rfl, by decide, by decide, rfl, rfl⟩
  case round =>
    obtain ⟨j, a, k, hj, rfl, rfl, rfl, ha, hk, HA, HK⟩ := hrel
    by_cases hlt : j < n
    · obtain ⟨g, rfl, hg, hcell⟩ := HF.out j hlt
      have HD := hid (ck_drop (bs := bs) (j := j) (by rw [HN.out]; exact hlt))
      have hbd : bs.getD j 0 < 256 := by
        have : j < bs.length := by rw [HN.out]; exact hlt
        rw [List.getD_eq_getElem?_getD, List.getElem?_eq_getElem this]
        exact HBS.out _ (List.getElem_mem this)
      generalize bs.getD j 0 = b at *
      go_wp2
      go_round
      case rel =>
        refine ⟨j + 1, (a + b) % 256, (k + (a + b) % 256) % 256, by omega, by simp, by simp, by go_num, by omega, by omega, ?_, ?_⟩
        · have := HA.out; rw [HD.out, ckA] at this; exact this
        · have := HK.out; rw [HD.out, ckB] at this; exact this
      case measure => simp [intOf]; omega
    · have HE : Hid (a = ckA bs 0 ∧ k = ckB bs 0 0) := by
        have h1 := HA.out
        have h2 := HK.out
        rw [List.drop_eq_nil_of_le (by rw [HN.out]; omega)] at h1 h2
        exact ⟨h1, h2⟩
      go_wp2
      go_ret2
      exact ⟨by rw [HE.out.1, HE.out.2]; rfl, rfl⟩

end Go.Proofs.YtklicjbpjigfdabGreat

/- DERIVED. The walks of the text's reader: next, numbers. -/
namespace Go.Proofs.YtklicjbpjigfdabGreat
open Go.RowKit
attribute [local go_sem ↓] Go.wp_at_zero Go.wp_at_succ

/-- The bytes of a text. -/
def bytesOf (t : ByteArray) : List Nat := t.data.toList.map UInt8.toNat
theorem bytesOf_length (t : ByteArray) : (bytesOf t).length = t.size := by simp [bytesOf]
theorem bytesOf_lt (t : ByteArray) : ∀ x ∈ bytesOf t, x < 256 := by
  intro x hx
  simp only [bytesOf, List.mem_map] at hx
  obtain ⟨b, _, rfl⟩ := hx
  exact b.toNat_lt
theorem bytesOf_at {t : ByteArray} {i : Nat} (h : i < t.size) : (bytesOf t).getD i 0 = t[i].toNat := by
  simp only [bytesOf, List.getD_eq_getElem?_getD, List.getElem?_map]
  rw [List.getElem?_eq_getElem (by simpa using h)]
  rfl

theorem leV_snoc : ∀ (l : List Nat) (b : Nat), leV (l ++ [b]) = leV l + 256 ^ l.length * b
  | [], b => by simp [leV]
  | x :: l, b => by
    rw [List.cons_append, leV, leV, leV_snoc l b, List.length_cons, Nat.pow_succ, Nat.mul_add, ← Nat.mul_assoc, Nat.mul_comm 256 (256 ^ l.length)]
    omega
/-- The weight of byte j, as 64 bits hold it. -/
def pl (j : Nat) : Nat := if j < 8 then 256 ^ j else 0
theorem pl_lt {j : Nat} (h : j < 8) : pl j = 256 ^ j := by simp [pl, h]
theorem pl_bd (j : Nat) : pl j ≤ 72057594037927936 := by
  unfold pl
  split
  · next h => exact Nat.pow_le_pow_right (n := 256) (by decide) (show j ≤ 7 by omega)
  · omega
theorem pl_next {j : Nat} (h : j < 8) : IntKind.u64.wrap ((pl j : Int) * 256) = ((pl (j + 1) : Nat) : Int) := by
  have e : IntKind.u64.wrap ((pl j : Int) * 256) = ((pl j : Int) * 256) % 18446744073709551616 := by simp [IntKind.wrap, IntKind.bits, IntKind.signed]
  rw [e]
  rcases Nat.lt_or_ge j 7 with h7 | h7
  · have h1 : pl (j + 1) = pl j * 256 := by rw [pl_lt (by omega), pl_lt h, Nat.pow_succ]
    have h2 : pl j ≤ 281474976710656 := by rw [pl_lt h]; exact Nat.pow_le_pow_right (n := 256) (by decide) (show j ≤ 6 by omega)
    rw [h1]; omega
  · obtain rfl : j = 7 := by omega
    rfl

theorem u64_nat' {n : Nat} (h : n < 18446744073709551616) : u64 (n : Int) = n := by unfold u64; omega
/-- Where the reader stands: r is what it has not read yet. -/
def RdAt (w : World) (p : Nat) (t : ByteArray) (r : List Nat) : Prop := ∃ a : Nat, a ≤ t.size + 2 ∧ w.heap[p]? = some (.cells #[.string t, .int .i64 (a : Int)] 179 (0, 0)) ∧ (bytesOf t).drop a = r
theorem RdAt.keep {w w' : World} {p : Nat} {t : ByteArray} {r : List Nat} (h : RdAt w p t r) (hb : w'.heap[p]? = w.heap[p]?) : RdAt w' p t r := by
  obtain ⟨a, h1, h2, h3⟩ := h
  exact ⟨a, h1, hb.trans h2, h3⟩

theorem Fr.drewN {S : Nat → Prop} {w w' : World} (h : Fr S w w') (n : Nat) : Fr S w (w'.drewN n) := by
  have := below_drewN (Below.refl w'.heap.size w') n
  exact h.trans (T := fun _ => False) (Fr.below this) (fun _ _ h => h.elim)
theorem drewN_heap (w : World) (n b : Nat) : (w.drewN n).heap[b]? = w.heap[b]? := by
  rcases Nat.lt_or_ge b w.heap.size with h | h
  · exact (below_drewN (Below.refl w.heap.size w) n).block b h
  · rw [Array.getElem?_eq_none h, Array.getElem?_eq_none (by simpa using h)]

/-- What next leaves when it is done. -/
theorem next_done {w wr : World} {p m j a q N n : Nat} {t : ByteArray} {r : List Nat} (hR : (bytesOf t).drop a = r) (ha : a ≤ t.size + 2) (hn : n = t.size - a) (hm : m ≤ 8) (hjm : j ≤ m) (hjn : j ≤ n) (hN : N = leV (r.take j)) (hq : q = a + j) (hb : wr.heap[p]? = some (.cells #[.string t, .int .i64 (q : Int)] 179 (0, 0))) (hF : Fr (fun b => b = p) w wr) (he : r.take m = r.take j ∧ r.drop m = r.drop j) (nq : Nat) :
    Ending.returned (.int .i64 (wrap64 (N : Int))) = .returned (.int .i64 (s64 (leV (r.take m)))) ∧ RdAt (wr.drewN nq) p t (r.drop m) ∧ Fr (fun b => b = p) w (wr.drewN nq) := by
  refine ⟨?_, ⟨q, by omega, (drewN_heap _ _ _).trans hb, ?_⟩, hF.drewN nq⟩
  · have h1 : N < 18446744073709551616 := by
      rw [hN]
      refine Nat.lt_of_lt_of_le (leV_take (fun x hx => bytesOf_lt t x ?_) j) (Nat.pow_le_pow_right (n := 256) (by decide) (show j ≤ 8 by omega))
      rw [← hR] at hx
      exact List.mem_of_mem_drop hx
    rw [he.1, ← hN]
    unfold wrap64 s64
    split
    · rw [show ((N : Int) + 9223372036854775808) % 18446744073709551616 - 9223372036854775808 = (N : Int) by omega]
    · rw [show ((N : Int) + 9223372036854775808) % 18446744073709551616 - 9223372036854775808 = (N : Int) - 18446744073709551616 by omega]
  · rw [he.2, hq, ← hR, List.drop_drop]

set_option maxHeartbeats 2000000 in
set_option maxRecDepth 100000 in
theorem next_any (p m : Nat) (t : ByteArray) (r : List Nat) (w : World) (h : RdAt w p t r) (ht : t.size ≤ 140737488355328) (hm : m ≤ 8) :
    Calls Tryz.prog 111 #[.pointer (some ⟨p, 0, none⟩), .int .i64 (m : Int)] w fun e w' => e = .returned (.int .i64 (s64 (leV (r.take m)))) ∧ RdAt w' p t (r.drop m) ∧ Fr (fun b => b = p) w w' := by
  obtain ⟨a, ha, hb, hr⟩ := h
  have hpz := lt_of_blk' hb
  have hrl : r.length = t.size - a := by rw [← hr, List.length_drop, bytesOf_length]
  have HR := hid hr
  have HB := hid hb
  have hrb : ∀ x ∈ r, x < 256 := fun x hx => bytesOf_lt t x (by rw [← hr] at hx; exact List.mem_of_mem_drop hx)
  have HRB := hid hrb
  generalize hn : r.length = n at *
  have HN := hid hn
  clear hb hr hrb hn
  go_enter Tryz.func111, Tryz.ntmps111
  go_wp2_with fail
  go_loopw [5, 6, 7] (fun sn sp si wr => ∃ (j N q : Nat), j ≤ m ∧ j ≤ n ∧ sn = .int .u64 (N : Int) ∧ sp = .int .u64 ((pl j : Nat) : Int) ∧ si = .int .i64 j ∧ Hid (N = leV (r.take j)) ∧ Hid (q = a + j) ∧ wr.heap[p]? = some (.cells #[.string t, .int .i64 (q : Int)] 179 (0, 0)) ∧ Hid (Fr (fun b => b = p) w wr)) (fun _ _ si _ => m - (intOf si).toNat)
  case atStart => exact ⟨0, 0, a, Nat.zero_le _, Nat.zero_le _, rfl, rfl, rfl, by simp [Hid, leV], rfl, HB.out, Fr.refl _ _⟩
  case round =>
    obtain ⟨j, N, q, hjm, hjn, rfl, rfl, rfl, HNj, HQ, hbr, HF⟩ := hrel
    obtain ⟨c0, c1, cz⟩ := blk2 hbr
    have HBR := hid hbr
    clear hbr
    by_cases hlt : j < m
    · by_cases hin : j < n
      · have hqt : q < t.size := by have := HQ.out; omega
        have hin' : decide ((q : Int) < (t.size : Int)) = true := by simp; omega
        have HBT : Hid (r.getD j 0 = t[q].toNat) := by
          unfold Hid
          rw [← bytesOf_at hqt, ← HR.out, HQ.out]
          simp [List.getD]
        have hb1 : t[q].toNat < 256 := t[q].toNat_lt
        have HSN : Hid (leV (r.take (j + 1)) = N + pl j * t[q].toNat) := by
          have hjr : j < r.length := by rw [HN.out]; exact hin
          unfold Hid
          rw [List.take_succ_eq_append_getElem hjr, leV_snoc, ← HNj.out, List.length_take, Nat.min_eq_left (by omega), pl_lt (by omega), ← HBT.out]
          simp [List.getD, hjr]
        have hNb : N + pl j * t[q].toNat < 18446744073709551616 := by
          have h1 := leV_take HRB.out (j + 1)
          rw [HSN.out] at h1
          exact Nat.lt_of_lt_of_le h1 (Nat.pow_le_pow_right (n := 256) (by decide) (show j + 1 ≤ 8 by omega))
        have hpn := pl_next (show j < 8 by omega)
        generalize hbe : t[q].toNat = b at *
        have HBE := hid hbe
        clear hbe
        have hpb : ((pl j * b : Nat) : Int) = (pl j : Int) * (b : Int) := Int.natCast_mul ..
        have hw0 : IntKind.u64.wrap (b : Int) = (b : Int) := by rw [wrapU64, u64_nat' (by omega)]
        have hw1 : IntKind.u64.wrap ((pl j : Int) * (b : Int)) = (pl j : Int) * (b : Int) := by rw [← hpb, wrapU64, u64_nat' (by omega)]
        have hw2 : IntKind.u64.wrap ((N : Int) + (pl j : Int) * (b : Int)) = (N : Int) + (pl j : Int) * (b : Int) := by rw [← hpb, ← Int.natCast_add, wrapU64, u64_nat' (by omega)]
        have HPB := hid hpb
        clear hpb
        go_wp2_with fail
        go_quiet (fail)
        go_wp2_with fail
        go_quiet (fail)
        go_wp2_with fail
        go_roundw
        case rel =>
          refine ⟨j + 1, N + pl j * b, q + 1, by omega, by omega, ?_, ?_, by go_num, HSN.out.symm, by have := HQ.out; unfold Hid; omega, ?_, ?_⟩
          · rw [HBE.out, hw0, hw1, hw2, Int.natCast_add, HPB.out]
          · rfl
          · refine (blk_set (i := 1) (.int .i64 ((q : Int) + 1)) ((drewN_heap wr _ p).trans HBR.out)).trans ?_
            simp
          · exact (HF.out.drewN _).set (fun _ => rfl) _
        case measure => simp [intOf]; omega
      · have hqt : ¬ q < t.size := by have := HQ.out; omega
        have hin' : decide (q < t.size) = false := by simp; omega
        have HE : Hid (r.take m = r.take j ∧ r.drop m = r.drop j) := by
          have h1 : r.length ≤ j := by rw [HN.out]; omega
          exact ⟨by rw [List.take_of_length_le (by omega), List.take_of_length_le h1], by rw [List.drop_eq_nil_of_le (by omega), List.drop_eq_nil_of_le h1]⟩
        go_wp2_with fail
        go_quiet (fail)
        go_wp2_with fail
        go_ret
        exact next_done HR.out ha hrl hm hjm hjn HNj.out HQ.out HBR.out HF.out HE.out nq
    · have HE : Hid (r.take m = r.take j ∧ r.drop m = r.drop j) := by obtain rfl : j = m := (by omega); exact ⟨rfl, rfl⟩
      have hlt' : decide (j < m) = false := by simp; omega
      go_wp2_with fail
      go_quiet (fail)
      go_wp2_with fail
      go_ret
      exact next_done HR.out ha hrl hm hjm hjn HNj.out HQ.out HBR.out HF.out HE.out nq

theorem toldNums_snoc : ∀ (j : Nat) (r : List Nat), toldNums (j + 1) r = toldNums j r ++ [s64 (leV ((r.drop (8 * j)).take 8))]
  | 0, r => by simp [toldNums]
  | j + 1, r => by
    rw [toldNums, toldNums_snoc j (r.drop 8), toldNums, List.cons_append, List.drop_drop, show 8 + 8 * j = 8 * (j + 1) by omega]
/-- A list of which the first j are read. -/
def rowAt (j m : Nat) (r : List Nat) : List Int := toldNums j r ++ List.replicate (m - j) 0
theorem rowAt_length {j m : Nat} (r : List Nat) (h : j ≤ m) : (rowAt j m r).length = m := by simp [rowAt, toldNums_length]; omega
theorem rowAt_set {j m : Nat} (r : List Nat) (h : j < m) : (rowAt j m r).set j (s64 (leV ((r.drop (8 * j)).take 8))) = rowAt (j + 1) m r := by
  unfold rowAt
  obtain ⟨d, hd⟩ : ∃ d, m - j = d + 1 := ⟨m - j - 1, by omega⟩
  rw [List.set_append_right _ _ (by rw [toldNums_length]; exact Nat.le_refl _), toldNums_length, Nat.sub_self, hd, List.replicate_succ, List.set_cons_zero, toldNums_snoc, List.append_assoc, show m - (j + 1) = d by omega]
  rfl
theorem made_zeros (m : Nat) (r : List Nat) : (madeCells (Value.int .i64 0).cells (m * 1)).toList = ints (rowAt 0 m r) := by
  have e : (Value.int IntKind.i64 0).cells = #[Value.int .i64 0] := rfl
  rw [e, Nat.mul_one]
  unfold madeCells rowAt ints
  apply List.ext_getElem (by simp [toldNums])
  intro i h1 h2
  simp [toldNums, Nat.mod_one]

set_option maxHeartbeats 1000000 in
set_option maxRecDepth 100000 in
theorem numbers_any (p m : Nat) (t : ByteArray) (r : List Nat) (w : World) (h : RdAt w p t r) (ht : t.size ≤ 140737488355328) (hm : m < 256) :
    Calls Tryz.prog 112 #[.pointer (some ⟨p, 0, none⟩), .int .i64 (m : Int)] w fun e w' => e = .returned (.slice (some ⟨w.heap.size, 0, none⟩) m m) ∧ w'.ownsRow w.heap.size 3 1 (.slice (some ⟨w.heap.size, 0, none⟩) m m) m (ints (toldNums m r)) ∧ RdAt w' p t (r.drop (8 * m)) ∧ Fr (fun b => b = p) w w' := by
  obtain ⟨i0, hi0, hz0, hz1, hz2⟩ := info_parts Tryz.infoInt
  have HRD := hid h
  have hpz : p < w.heap.size := by obtain ⟨a, _, h2, _⟩ := h; exact lt_of_blk' h2
  have HNX := hid (fun (r' : List Nat) (w' : World) (h' : RdAt w' p t r') => next_any p 8 t r' w' h' ht (by decide))
  clear h
  go_enter Tryz.func112, Tryz.ntmps112
  go_wp2_with (first | (at_make; refine wpList_make_full _ rfl _ _ 28 rfl w.heap.size 3 i0 (.int .i64 0) 1 Tryz.underlying28 hi0 hz0 hz1 _ _ _ _ m rfl rfl (by rfl) (by rfl) (by rw [hz2]; omega) (by unfold maxLen; omega) (Nat.le_refl _) ?_; intro w1 hown1 hgrow1))
  have HO1 : Hid (w1.ownsRow w.heap.size 3 1 (.slice (some ⟨w.heap.size, 0, none⟩) m m) m (ints (rowAt 0 m r))) := by rw [made_zeros m r] at hown1; exact hown1
  have HF1 : Hid (Fr (fun b => b = p) w w1) := Fr.below ((Below.refl _ _).grown hgrow1 (Nat.le_refl _) (fun k h => by cases h))
  have HR1 : Hid (RdAt w1 p t r) := HRD.out.keep (hgrow1.block p hpz (by simp))
  generalize hG : w.heap.size = G at *
  have HG := hid hG
  clear hown1 hgrow1 hG
  go_loopw [11] (fun si wr => ∃ j : Nat, j ≤ m ∧ si = .int .i64 j ∧ Hid (wr.ownsRow G 3 1 (.slice (some ⟨G, 0, none⟩) m m) m (ints (rowAt j m r))) ∧ Hid (RdAt wr p t (r.drop (8 * j))) ∧ Hid (Fr (fun b => b = p) w wr)) (fun si _ => m - (intOf si).toNat)
  case atStart => exact ⟨0, Nat.zero_le _, rfl, HO1, HR1, HF1⟩
  case round =>
    obtain ⟨j, hj, rfl, HO, HR, HF⟩ := hrel
    by_cases hlt : j < m
    · go_wp2_with fail
      refine (HNX.out _ _ HR.out).mono ?_
      rintro e w2 ⟨rfl, hr2, hf2⟩
      have hown2 : w2.ownsRow G 3 1 (.slice (some ⟨G, 0, none⟩) m m) m (ints (rowAt j m r)) := ownsRow_block HO.out (fun g e => by simp [Value.ownBlock] at e; subst e; exact hf2.block _ (ownsRow_lt HO.out rfl) (by omega))
      have hgz : G < w2.heap.size := ownsRow_lt hown2 rfl
      have hcell : w2.cell? ⟨G, j, none⟩ = some (.int .i64 ((rowAt j m r).getD j 0)) := ownsRow_cell hown2 (by have hl := rowAt_length r hj; simp [ints, List.getD, hl, hlt])
      have hfz : ∀ o, w2.frozen? ⟨G, o, none⟩ = false := fun o => by
        rcases hown2.2 with ⟨e, _⟩ | ⟨g', c', cur, e, _, hh, _⟩
        · cases e
        · cases e; simp [World.frozen?, hh]
      have HST := hid ((hown2.stored j (.int .i64 (s64 (leV ((r.drop (8 * j)).take 8))))).1)
      have HRS := hid (rowAt_set r hlt)
      have HDD : Hid ((r.drop (8 * j)).drop 8 = r.drop (8 * (j + 1))) := by unfold Hid; rw [List.drop_drop, show 8 * j + 8 = 8 * (j + 1) by omega]
      have HF2 := hid hf2
      have HR2 := hid hr2
      generalize s64 (leV ((r.drop (8 * j)).take 8)) = x at *
      generalize (rowAt j m r).getD j 0 = y at *
      clear hown2 hf2 hr2
      go_wp2_with fail
      go_roundw
      case rel =>
        refine ⟨j + 1, by omega, by go_num, ?_, ?_, ?_⟩
        · have := HST.out
          rw [show (ints (rowAt j m r)).set j (.int .i64 x) = ints (rowAt (j + 1) m r) from by rw [← HRS.out]; simp [ints, List.map_set]] at this
          exact this
        · have := HR2.out
          rw [HDD.out] at this
          exact this.keep (Below.heap_setCell _ _ _ _ (by simp; omega))
        · refine Fr.set (HF.out.trans HF2.out (fun _ _ h => h)) (fun hlt' => ?_) _
          have := HG.out
          simp at hlt'; omega
      case measure => simp [intOf]; omega
    · obtain rfl : j = m := by omega
      go_wp2_with fail
      go_ret
      rw [HG.out]
      refine ⟨rfl, ?_, HR.out, HF.out⟩
      have := HO.out
      simpa [rowAt] using this

end Go.Proofs.YtklicjbpjigfdabGreat

/- DERIVED. Plain mathematics of reading: the lists as they are filled, one place after the other. -/
namespace Go.Proofs.YtklicjbpjigfdabGreat

/-- The sizes, as far as they are read. -/
def szA (hs : List (Nat × Nat)) (j n : Nat) : List Int := (hs.take j).map (fun p => (p.1 : Int)) ++ List.replicate (n - j) 0
/-- The levels, as far as their times are read. -/
def lvA (hs : List (Nat × Nat)) (j n : Nat) : List Lvl := (hs.take j).map (fun p => { items := [], times := p.2 }) ++ List.replicate (n - j) Lvl.none
/-- The levels, as far as their items are read. -/
def lvC (hs : List (Nat × Nat)) (r : List Nat) (j : Nat) : List Lvl := toldLv (hs.take j) r ++ (hs.drop j).map (fun p => { items := [], times := p.2 })

theorem szA_length {hs : List (Nat × Nat)} {j n : Nat} (h : hs.length = n) (hj : j ≤ n) : (szA hs j n).length = n := by simp [szA, h]; omega
theorem lvA_length {hs : List (Nat × Nat)} {j n : Nat} (h : hs.length = n) (hj : j ≤ n) : (lvA hs j n).length = n := by simp [lvA, h]; omega
theorem lvC_length {hs : List (Nat × Nat)} {r : List Nat} {j n : Nat} (h : hs.length = n) (hj : j ≤ n) : (lvC hs r j).length = n := by simp [lvC, toldLv_length, h]; omega
theorem take_snocP {hs : List (Nat × Nat)} {j : Nat} (h : j < hs.length) : hs.take (j + 1) = hs.take j ++ [hs.getD j (0, 0)] := by
  rw [List.take_succ_eq_append_getElem h]; simp [List.getD, h]
theorem szA_set {hs : List (Nat × Nat)} {j n : Nat} (h : hs.length = n) (hj : j < n) : (szA hs j n).set j (((hs.getD j (0, 0)).1 : Nat) : Int) = szA hs (j + 1) n := by
  unfold szA
  obtain ⟨d, hd⟩ : ∃ d, n - j = d + 1 := ⟨n - j - 1, by omega⟩
  rw [List.set_append_right _ _ (by simp; omega), show j - (List.map (fun p : Nat × Nat => (p.1 : Int)) (hs.take j)).length = 0 by simp; omega, hd, List.replicate_succ, List.set_cons_zero, take_snocP (by omega), List.map_append, List.append_assoc, show n - (j + 1) = d by omega]
  rfl
theorem lvA_times {hs : List (Nat × Nat)} {j n : Nat} (h : hs.length = n) (hj : j < n) : setTimes (lvA hs j n) j (hs.getD j (0, 0)).2 = lvA hs (j + 1) n := by
  have hl : (List.map (fun p : Nat × Nat => ({ items := [], times := p.2 } : Lvl)) (hs.take j)).length = j := by simp; omega
  unfold setTimes lvA
  obtain ⟨d, hd⟩ : ∃ d, n - j = d + 1 := ⟨n - j - 1, by omega⟩
  rw [hd, List.replicate_succ, take_snocP (by omega), List.map_append, List.append_assoc, show n - (j + 1) = d by omega]
  generalize List.map (fun p : Nat × Nat => ({ items := [], times := p.2 } : Lvl)) (hs.take j) = A at *
  rw [List.set_append_right _ _ (by omega), show j - A.length = 0 by omega, List.set_cons_zero, List.getD_eq_getElem?_getD, List.getElem?_append_right (by omega), show j - A.length = 0 by omega]
  rfl
theorem lvA_items {hs : List (Nat × Nat)} {j n i : Nat} : ((lvA hs j n).getD i Lvl.none).items = [] := by
  unfold lvA
  rw [List.getD_eq_getElem?_getD]
  cases h : (List.map (fun p : Nat × Nat => ({ items := [], times := p.2 } : Lvl)) (hs.take j) ++ List.replicate (n - j) Lvl.none)[i]? with
  | none => rfl
  | some l =>
    have := List.mem_of_getElem? h
    rw [List.mem_append, List.mem_map, List.mem_replicate] at this
    rcases this with ⟨p, _, rfl⟩ | ⟨_, rfl⟩ <;> rfl
theorem lvA_all {hs : List (Nat × Nat)} {n : Nat} (r : List Nat) (h : hs.length = n) : lvA hs n n = lvC hs r 0 := by
  simp [lvA, lvC, toldLv, List.take_of_length_le (show hs.length ≤ n by omega)]
theorem toldLv_append : ∀ (a b : List (Nat × Nat)) (r : List Nat), toldLv (a ++ b) r = toldLv a r ++ toldLv b (r.drop (8 * hsum a))
  | [], b, r => by simp [toldLv, hsum]
  | (n, t) :: a, b, r => by
    rw [List.cons_append, toldLv, toldLv, toldLv_append a b, List.cons_append, List.drop_drop, hsum, show 8 * n + 8 * hsum a = 8 * (n + hsum a) by omega]
theorem hsum_append : ∀ (a b : List (Nat × Nat)), hsum (a ++ b) = hsum a + hsum b
  | [], b => by simp [hsum]
  | (n, t) :: a, b => by rw [List.cons_append, hsum, hsum, hsum_append a b]; omega
theorem hsum_step {hs : List (Nat × Nat)} {j : Nat} (h : j < hs.length) : hsum (hs.take (j + 1)) = hsum (hs.take j) + (hs.getD j (0, 0)).1 := by
  rw [take_snocP h, hsum_append]; simp [hsum]
theorem lvC_items {hs : List (Nat × Nat)} {r : List Nat} {j n : Nat} (h : hs.length = n) (hj : j < n) : setItems (lvC hs r j) j (toldNums (hs.getD j (0, 0)).1 (r.drop (8 * hsum (hs.take j)))) = lvC hs r (j + 1) := by
  have hjl : j < hs.length := by omega
  have hl : (toldLv (hs.take j) r).length = j := by rw [toldLv_length]; simp; omega
  have hd : hs.drop j = hs.getD j (0, 0) :: hs.drop (j + 1) := by rw [List.drop_eq_getElem_cons hjl]; simp [List.getD, hjl]
  unfold setItems lvC
  rw [hd, take_snocP hjl, toldLv_append]
  generalize hs.getD j (0, 0) = p at *
  obtain ⟨a, b⟩ := p
  generalize toldLv (hs.take j) r = A at *
  rw [List.map_cons, List.set_append_right _ _ (by omega), show j - A.length = 0 by omega, List.set_cons_zero, List.getD_eq_getElem?_getD, List.getElem?_append_right (by omega), show j - A.length = 0 by omega, List.append_assoc]
  rfl
theorem lvC_all {hs : List (Nat × Nat)} {r : List Nat} {n : Nat} (h : hs.length = n) : lvC hs r n = toldLv hs r := by
  simp [lvC, List.take_of_length_le (show hs.length ≤ n by omega), List.drop_eq_nil_of_le (show hs.length ≤ n by omega)]
theorem toldHd_at : ∀ (n : Nat) (r : List Nat) (j : Nat), j < n → (toldHd n r).getD j (0, 0) = (leV ((r.drop (5 * j)).take 1), leV (((r.drop (5 * j)).drop 1).take 4))
  | 0, r, j, h => by omega
  | n + 1, r, 0, h => by simp [toldHd]
  | n + 1, r, j + 1, h => by
    have := toldHd_at n ((r.drop 1).drop 4) j (by omega)
    rw [toldHd, List.getD_cons_succ, this, List.drop_drop, List.drop_drop, show 1 + (4 + 5 * j) = 5 * (j + 1) by omega]
theorem s64_small {n : Nat} (h : n < 9223372036854775808) : s64 n = (n : Int) := by unfold s64; rw [if_pos h]

end Go.Proofs.YtklicjbpjigfdabGreat

/- DERIVED. The walk of told: what a text says, read into memory. -/
namespace Go.Proofs.YtklicjbpjigfdabGreat
open Go.RowKit
variable {F : Nat → Prop}
attribute [local go_sem ↓] Go.wp_at_zero Go.wp_at_succ

theorem LvAt.blockF {w w' : World} {g cap : Nat} {vs : List Value} {L : List Lvl} (h : LvAt F w g cap vs L) (hb : ∀ b, (b = g ∨ (F b ∧ ∃ c, w.heap[b]? = some (.cells c 3 (0, 0)))) → w'.heap[b]? = w.heap[b]?) : LvAt F w' g cap vs L := by
  refine ⟨ownsRow_block h.row (fun b hg => hb b (.inl ?_)), h.len, fun j hj => (h.its j hj).block (fun b hg => hb b (.inr ⟨h.fp j hj b hg, ?_⟩)), h.fp⟩
  · simp [Value.ownBlock] at hg; exact hg.symm
  · exact (h.its j hj).kind hg

theorem LvAt.wider {G : Nat → Prop} {w : World} {g cap : Nat} {vs : List Value} {L : List Lvl} (h : LvAt F w g cap vs L) (hFG : ∀ b, F b → G b) : LvAt G w g cap vs L := ⟨h.row, h.len, h.its, fun j hj b e => hFG b (h.fp j hj b e)⟩

abbrev skZero : Obj := .cells #[.int .i64 0, .slice none 0 0, .int .i64 0, .int .i64 0] 64 (0, 0)

/-- Where told stands: block R is its result, p the reader, b0 the sketch; gs the sizes, gl the levels. -/
structure TdSt (F : Nat → Prop) (R p b0 : Nat) (t : ByteArray) (w : World) (k : Nat) (gs n gl : Nat) (r : List Nat) (lo hi : Int) (szs : List Int) (L : List Lvl) (wr : World) : Prop where
  res : wr.heap[R]? = some skZero
  rd : RdAt wr p t r
  sk : wr.heap[b0]? = some (skBlk k gl n n lo hi)
  sz : wr.ownsRow 0 3 1 (.slice (some ⟨gs, 0, none⟩) n n) n (ints szs)
  lv : ∃ vs, LvAt (fun b => F b ∧ b ≠ gs) wr gl n vs L
  len : L.length = n
  hs : b0 < gs
  hl : b0 < gl
  bel : Below R w wr
  hp : R < p
  hb : p < b0

theorem TdSt.ne {R p b0 : Nat} {t : ByteArray} {w : World} {k gs n gl : Nat} {r : List Nat} {lo hi : Int} {szs : List Int} {L : List Lvl} {wr : World} (h : TdSt F R p b0 t w k gs n gl r lo hi szs L wr) : gs ≠ gl := by
  obtain ⟨vs, hL⟩ := h.lv
  have hp := h.hp
  have hb0 := h.hb
  rcases h.sz.2 with ⟨e, _⟩ | ⟨g', cap', cur', hv, _, hh, _⟩
  · cases e
  · cases hv; exact hL.ne hh (by decide)
/-- The reader goes on. -/
theorem TdSt.next {R p b0 : Nat} {t : ByteArray} {w : World} {k gs n gl : Nat} {r r' : List Nat} {lo hi : Int} {szs : List Int} {L : List Lvl} {wr w' : World} (h : TdSt F R p b0 t w k gs n gl r lo hi szs L wr) (hr : RdAt w' p t r') (hf : Fr (fun b => b = p) wr w') : TdSt F R p b0 t w k gs n gl r' lo hi szs L w' := by
  obtain ⟨vs, hL⟩ := h.lv
  have hp := h.hp
  have hb0 := h.hb
  refine ⟨(hf.block _ (lt_of_blk' h.res) (by omega)).trans h.res, hr, (hf.block _ (lt_of_blk' h.sk) (by omega)).trans h.sk, ownsRow_block h.sz (fun g e => by simp [Value.ownBlock] at e; subst e; exact hf.block _ (ownsRow_lt h.sz rfl) (by have := h.hs; omega)), ⟨vs, hL.blockF (fun b hb => ?_)⟩, h.len, h.hs, h.hl, h.bel.trans (hf.toBelow (Nat.le_of_lt (lt_of_blk' h.res)) (fun b e => by have := h.hp; omega)), h.hp, h.hb⟩
  rcases hb with rfl | ⟨_, c, hc⟩
  · exact hf.block _ hL.lt (by have := h.hl; omega)
  · refine hf.block _ (lt_of_blk' hc) (fun e => ?_)
    subst e
    obtain ⟨a, _, hb, _⟩ := h.rd
    rw [hb] at hc; cases hc
/-- A size is read. -/
theorem TdSt.size {R p b0 : Nat} {t : ByteArray} {w : World} {k gs n gl : Nat} {r : List Nat} {lo hi : Int} {szs : List Int} {L : List Lvl} {wr : World} (h : TdSt F R p b0 t w k gs n gl r lo hi szs L wr) (j : Nat) (x : Int) : TdSt F R p b0 t w k gs n gl r lo hi (szs.set j x) L (wr.setCell ⟨gs, j, none⟩ (.int .i64 x)) := by
  obtain ⟨vs, hL⟩ := h.lv
  have hp := h.hp
  have hb0 := h.hb
  have hne := h.ne
  have hst := (h.sz.stored j (.int .i64 x)).1
  have hgs := h.hs
  refine ⟨(Below.heap_setCell _ _ _ _ (by simp; omega)).trans h.res, h.rd.keep (Below.heap_setCell _ _ _ _ (by simp; omega)), (Below.heap_setCell _ _ _ _ (by simp; omega)).trans h.sk, ?_, ⟨vs, hL.blockF (fun b hb => Below.heap_setCell _ _ _ _ ?_)⟩, h.len, h.hs, h.hl, h.bel.setCell (by simp; omega) _, h.hp, h.hb⟩
  · rw [show (ints szs).set j (.int .i64 x) = ints (szs.set j x) by simp [ints, List.map_set]] at hst
    exact hst
  · rcases hb with rfl | ⟨⟨_, hb⟩, _⟩
    · exact Ne.symm hne
    · exact hb
/-- Times are read. -/
theorem TdSt.times {R p b0 : Nat} {t : ByteArray} {w : World} {k gs n gl : Nat} {r : List Nat} {lo hi : Int} {szs : List Int} {L : List Lvl} {wr : World} (h : TdSt F R p b0 t w k gs n gl r lo hi szs L wr) {j : Nat} (hj : j < n) (x : Nat) : TdSt F R p b0 t w k gs n gl r lo hi szs (setTimes L j x) (wr.setCell ⟨gl, j * 2 + 1, none⟩ (.int .i64 (x : Int))) := by
  obtain ⟨vs, hL⟩ := h.lv
  have hp := h.hp
  have hb0 := h.hb
  have hne := h.ne
  have hgl := h.hl
  exact ⟨(Below.heap_setCell _ _ _ _ (by simp; omega)).trans h.res, h.rd.keep (Below.heap_setCell _ _ _ _ (by simp; omega)), (Below.heap_setCell _ _ _ _ (by simp; omega)).trans h.sk, ownsRow_block h.sz (fun g e => by simp [Value.ownBlock] at e; subst e; exact Below.heap_setCell _ _ _ _ hne), ⟨vs, hL.setTimes (by rw [h.len]; exact hj)⟩, by rw [setTimes_length]; exact h.len, h.hs, h.hl, h.bel.setCell (by simp; omega) _, h.hp, h.hb⟩
/-- Items are read. -/
theorem TdSt.items {R p b0 : Nat} {t : ByteArray} {w : World} {k gs n gl : Nat} {r : List Nat} {lo hi : Int} {szs : List Int} {L : List Lvl} {wr : World} (h : TdSt F R p b0 t w k gs n gl r lo hi szs L wr) {j : Nat} (hj : j < n) {v : Value} {xs : List Int} (hv : Ints wr v xs) (hF : ∀ b, v.ownBlock = some b → F b ∧ b ≠ gs) : TdSt F R p b0 t w k gs n gl r lo hi szs (setItems L j xs) (wr.setCell ⟨gl, j * 2, none⟩ v) := by
  obtain ⟨vs, hL⟩ := h.lv
  have hp := h.hp
  have hb0 := h.hb
  have hne := h.ne
  have hgl := h.hl
  exact ⟨(Below.heap_setCell _ _ _ _ (by simp; omega)).trans h.res, h.rd.keep (Below.heap_setCell _ _ _ _ (by simp; omega)), (Below.heap_setCell _ _ _ _ (by simp; omega)).trans h.sk, ownsRow_block h.sz (fun g e => by simp [Value.ownBlock] at e; subst e; exact Below.heap_setCell _ _ _ _ hne), ⟨_, hL.setItems hv hF (by rw [h.len]; exact hj)⟩, by rw [setItems_length]; exact h.len, h.hs, h.hl, h.bel.setCell (by simp; omega) _, h.hp, h.hb⟩
theorem TdSt.setSk {R p b0 : Nat} {t : ByteArray} {w : World} {k gs n gl : Nat} {r : List Nat} {lo hi lo' hi' : Int} {szs : List Int} {L : List Lvl} {wr : World} (h : TdSt F R p b0 t w k gs n gl r lo hi szs L wr) (i : Nat) (v : Value) (hb : (wr.setCell ⟨b0, i, none⟩ v).heap[b0]? = some (skBlk k gl n n lo' hi')) : TdSt F R p b0 t w k gs n gl r lo' hi' szs L (wr.setCell ⟨b0, i, none⟩ v) := by
  obtain ⟨vs, hL⟩ := h.lv
  have hp := h.hp
  have hb0 := h.hb
  have hgl := h.hl
  have hgs := h.hs
  refine ⟨(Below.heap_setCell _ _ _ _ (by simp; omega)).trans h.res, h.rd.keep (Below.heap_setCell _ _ _ _ (by simp; omega)), hb, ownsRow_block h.sz (fun g e => by simp [Value.ownBlock] at e; subst e; exact Below.heap_setCell _ _ _ _ (by simp; omega)), ⟨vs, hL.blockF (fun b hb' => Below.heap_setCell _ _ _ _ ?_)⟩, h.len, h.hs, h.hl, h.bel.setCell (by simp; omega) _, h.hp, h.hb⟩
  rcases hb' with rfl | ⟨_, c, hc⟩
  · simp; omega
  · intro e
    simp at e
    subst e
    rw [h.sk] at hc; cases hc
theorem TdSt.lo {R p b0 : Nat} {t : ByteArray} {w : World} {k gs n gl : Nat} {r : List Nat} {lo hi : Int} {szs : List Int} {L : List Lvl} {wr : World} (h : TdSt F R p b0 t w k gs n gl r lo hi szs L wr) (x : Int) : TdSt F R p b0 t w k gs n gl r x hi szs L (wr.setCell ⟨b0, 2, none⟩ (.int .i64 x)) :=
  h.setSk 2 _ ((blk_set (i := 2) _ h.sk).trans (by simp))
theorem TdSt.hi {R p b0 : Nat} {t : ByteArray} {w : World} {k gs n gl : Nat} {r : List Nat} {lo hi : Int} {szs : List Int} {L : List Lvl} {wr : World} (h : TdSt F R p b0 t w k gs n gl r lo hi szs L wr) (x : Int) : TdSt F R p b0 t w k gs n gl r lo x szs L (wr.setCell ⟨b0, 3, none⟩ (.int .i64 x)) :=
  h.setSk 3 _ ((blk_set (i := 3) _ h.sk).trans (by simp))
/-- What lies there, cell by cell. -/
theorem TdSt.cells {R p b0 : Nat} {t : ByteArray} {w : World} {k gs n gl : Nat} {r : List Nat} {lo hi : Int} {szs : List Int} {L : List Lvl} {wr : World} (h : TdSt F R p b0 t w k gs n gl r lo hi szs L wr) :
    wr.cell? ⟨b0, 0, none⟩ = some (.int .i64 (k : Int)) ∧ wr.cell? ⟨b0, 1, none⟩ = some (.slice (some ⟨gl, 0, none⟩) n n) ∧ wr.cell? ⟨b0, 2, none⟩ = some (.int .i64 lo) ∧ wr.cell? ⟨b0, 3, none⟩ = some (.int .i64 hi) ∧ (∀ o, wr.frozen? ⟨b0, o, none⟩ = false) := blk4 h.sk
theorem TdSt.szCell {R p b0 : Nat} {t : ByteArray} {w : World} {k gs n gl : Nat} {r : List Nat} {lo hi : Int} {szs : List Int} {L : List Lvl} {wr : World} (h : TdSt F R p b0 t w k gs n gl r lo hi szs L wr) {j : Nat} (hj : j < n) : wr.cell? ⟨gs, j, none⟩ = some (.int .i64 (szs.getD j 0)) ∧ (∀ o, wr.frozen? ⟨gs, o, none⟩ = false) := by
  have hl : szs.length = n := by have := h.sz.1; rw [ints_length] at this; omega
  refine ⟨ownsRow_cell h.sz (by simp [ints, List.getD, hl, hj]), fun o => ?_⟩
  rcases h.sz.2 with ⟨e, _⟩ | ⟨g', c', cur, e, _, hh, _⟩
  · cases e
  · cases e; simp [World.frozen?, hh]
theorem TdSt.lvCell {R p b0 : Nat} {t : ByteArray} {w : World} {k gs n gl : Nat} {r : List Nat} {lo hi : Int} {szs : List Int} {L : List Lvl} {wr : World} (h : TdSt F R p b0 t w k gs n gl r lo hi szs L wr) {j : Nat} (hj : j < n) : (∃ u, wr.cell? ⟨gl, j * 2, none⟩ = some u ∧ u.oneCell' = true) ∧ (∃ u : Int, wr.cell? ⟨gl, j * 2 + 1, none⟩ = some (.int .i64 u)) ∧ (∀ o, wr.frozen? ⟨gl, o, none⟩ = false) := by
  obtain ⟨vs, hL⟩ := h.lv
  have hp := h.hp
  have hb0 := h.hb
  have hj' : j < L.length := by rw [h.len]; exact hj
  obtain ⟨ao, c, e⟩ := hL.itemsForm hj'
  exact ⟨⟨_, hL.cell0 hj', by rw [e]; rfl⟩, ⟨_, hL.cell1 hj'⟩, hL.free⟩

theorem made_szs (n : Nat) (hs : List (Nat × Nat)) : (madeCells (Value.int .i64 0).cells (n * 1)).toList = ints (szA hs 0 n) := by
  rw [made_zeros n []]; simp [rowAt, szA, toldNums]
theorem lvCells_rep : ∀ n : Nat, lvCells (List.replicate n (Value.slice none 0 0)) (List.replicate n Lvl.none) = (List.replicate n [Value.slice none 0 0, Value.int .i64 0]).flatten
  | 0 => rfl
  | n + 1 => by simp only [List.replicate_succ, lvCells, List.flatten_cons, lvCells_rep n]; rfl

end Go.Proofs.YtklicjbpjigfdabGreat
