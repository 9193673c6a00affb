/- DERIVED. The walks of the text's reader: next, numbers. -/
import Derived.Test.YtklicjbpjigfdabMn
import Derived.Test.YtklicjbpjigfdabNd
import Derived.Test.YtklicjbpjigfdabTapeW
import Derived.Deep.DrawnRows
namespace Go.Proofs.Ytklicjbpjigfdab
open Go.RowKit
attribute [local go_sem ↓] Go.wp_at_zero Go.wp_at_succ

/-- The bytes of a text. -/
def bytesOf (t : ByteArray) : List Nat := t.data.toList.map UInt8.toNat
theorem bytesOf_length (t : ByteArray) : (bytesOf t).length = t.size := by simp [bytesOf]
theorem bytesOf_lt (t : ByteArray) : ∀ x ∈ bytesOf t, x < 256 := by
  intro x hx
  simp only [bytesOf, List.mem_map] at hx
  obtain ⟨b, _, rfl⟩ := hx
  exact b.toNat_lt
theorem bytesOf_at {t : ByteArray} {i : Nat} (h : i < t.size) : (bytesOf t).getD i 0 = t[i].toNat := by
  simp only [bytesOf, List.getD_eq_getElem?_getD, List.getElem?_map]
  rw [List.getElem?_eq_getElem (by simpa using h)]
  rfl

theorem leV_snoc : ∀ (l : List Nat) (b : Nat), leV (l ++ [b]) = leV l + 256 ^ l.length * b
  | [], b => by simp [leV]
  | x :: l, b => by
    rw [List.cons_append, leV, leV, leV_snoc l b, List.length_cons, Nat.pow_succ, Nat.mul_add, ← Nat.mul_assoc, Nat.mul_comm 256 (256 ^ l.length)]
    omega
/-- The weight of byte j, as 64 bits hold it. -/
def pl (j : Nat) : Nat := if j < 8 then 256 ^ j else 0
theorem pl_lt {j : Nat} (h : j < 8) : pl j = 256 ^ j := by simp [pl, h]
theorem pl_bd (j : Nat) : pl j ≤ 72057594037927936 := by
  unfold pl
  split
  · next h => exact Nat.pow_le_pow_right (n := 256) (by decide) (show j ≤ 7 by omega)
  · omega
theorem pl_next {j : Nat} (h : j < 8) : IntKind.u64.wrap ((pl j : Int) * 256) = ((pl (j + 1) : Nat) : Int) := by
  have e : IntKind.u64.wrap ((pl j : Int) * 256) = ((pl j : Int) * 256) % 18446744073709551616 := by simp [IntKind.wrap, IntKind.bits, IntKind.signed]
  rw [e]
  rcases Nat.lt_or_ge j 7 with h7 | h7
  · have h1 : pl (j + 1) = pl j * 256 := by rw [pl_lt (by omega), pl_lt h, Nat.pow_succ]
    have h2 : pl j ≤ 281474976710656 := by rw [pl_lt h]; exact Nat.pow_le_pow_right (n := 256) (by decide) (show j ≤ 6 by omega)
    rw [h1]; omega
  · obtain rfl : j = 7 := by omega
    rfl

theorem u64_nat' {n : Nat} (h : n < 18446744073709551616) : u64 (n : Int) = n := by unfold u64; omega
/-- Where the reader stands: r is what it has not read yet. -/
def RdAt (w : World) (p : Nat) (t : ByteArray) (r : List Nat) : Prop := ∃ a : Nat, a ≤ t.size + 2 ∧ w.heap[p]? = some (.cells #[.string t, .int .i64 (a : Int)] 148 (0, 0)) ∧ (bytesOf t).drop a = r
theorem RdAt.keep {w w' : World} {p : Nat} {t : ByteArray} {r : List Nat} (h : RdAt w p t r) (hb : w'.heap[p]? = w.heap[p]?) : RdAt w' p t r := by
  obtain ⟨a, h1, h2, h3⟩ := h
  exact ⟨a, h1, hb.trans h2, h3⟩

theorem Fr.drewN {S : Nat → Prop} {w w' : World} (h : Fr S w w') (n : Nat) : Fr S w (w'.drewN n) := by
  have := below_drewN (Below.refl w'.heap.size w') n
  exact h.trans (T := fun _ => False) (Fr.below this) (fun _ _ h => h.elim)
theorem drewN_heap (w : World) (n b : Nat) : (w.drewN n).heap[b]? = w.heap[b]? := by
  rcases Nat.lt_or_ge b w.heap.size with h | h
  · exact (below_drewN (Below.refl w.heap.size w) n).block b h
  · rw [Array.getElem?_eq_none h, Array.getElem?_eq_none (by simpa using h)]

/-- What next leaves when it is done. -/
theorem next_done {w wr : World} {p m j a q N n : Nat} {t : ByteArray} {r : List Nat} (hR : (bytesOf t).drop a = r) (ha : a ≤ t.size + 2) (hn : n = t.size - a) (hm : m ≤ 8) (hjm : j ≤ m) (hjn : j ≤ n) (hN : N = leV (r.take j)) (hq : q = a + j) (hb : wr.heap[p]? = some (.cells #[.string t, .int .i64 (q : Int)] 148 (0, 0))) (hF : Fr (fun b => b = p) w wr) (he : r.take m = r.take j ∧ r.drop m = r.drop j) (nq : Nat) :
    Ending.returned (.int .i64 (wrap64 (N : Int))) = .returned (.int .i64 (s64 (leV (r.take m)))) ∧ RdAt (wr.drewN nq) p t (r.drop m) ∧ Fr (fun b => b = p) w (wr.drewN nq) := by
  refine ⟨?_, ⟨q, by omega, (drewN_heap _ _ _).trans hb, ?_⟩, hF.drewN nq⟩
  · have h1 : N < 18446744073709551616 := by
      rw [hN]
      refine Nat.lt_of_lt_of_le (leV_take (fun x hx => bytesOf_lt t x ?_) j) (Nat.pow_le_pow_right (n := 256) (by decide) (show j ≤ 8 by omega))
      rw [← hR] at hx
      exact List.mem_of_mem_drop hx
    rw [he.1, ← hN]
    unfold wrap64 s64
    split
    · rw [show ((N : Int) + 9223372036854775808) % 18446744073709551616 - 9223372036854775808 = (N : Int) by omega]
    · rw [show ((N : Int) + 9223372036854775808) % 18446744073709551616 - 9223372036854775808 = (N : Int) - 18446744073709551616 by omega]
  · rw [he.2, hq, ← hR, List.drop_drop]

set_option maxHeartbeats 2000000 in
set_option maxRecDepth 100000 in
theorem next_any (p m : Nat) (t : ByteArray) (r : List Nat) (w : World) (h : RdAt w p t r) (ht : t.size ≤ 140737488355328) (hm : m ≤ 8) :
    Calls Try.prog 88 #[.pointer (some ⟨p, 0, none⟩), .int .i64 (m : Int)] w fun e w' => e = .returned (.int .i64 (s64 (leV (r.take m)))) ∧ RdAt w' p t (r.drop m) ∧ Fr (fun b => b = p) w w' := by
  obtain ⟨a, ha, hb, hr⟩ := h
  have hpz := lt_of_blk' hb
  have hrl : r.length = t.size - a := by rw [← hr, List.length_drop, bytesOf_length]
  have HR := hid hr
  have HB := hid hb
  have hrb : ∀ x ∈ r, x < 256 := fun x hx => bytesOf_lt t x (by rw [← hr] at hx; exact List.mem_of_mem_drop hx)
  have HRB := hid hrb
  generalize hn : r.length = n at *
  have HN := hid hn
  clear hb hr hrb hn
  go_enter Try.func88, Try.ntmps88
  go_wp2_with fail
  go_loopw [5, 6, 7] (fun sn sp si wr => ∃ (j N q : Nat), j ≤ m ∧ j ≤ n ∧ sn = .int .u64 (N : Int) ∧ sp = .int .u64 ((pl j : Nat) : Int) ∧ si = .int .i64 j ∧ Hid (N = leV (r.take j)) ∧ Hid (q = a + j) ∧ wr.heap[p]? = some (.cells #[.string t, .int .i64 (q : Int)] 148 (0, 0)) ∧ Hid (Fr (fun b => b = p) w wr)) (fun _ _ si _ => m - (intOf si).toNat)
  case atStart => exact ⟨0, 0, a, Nat.zero_le _, Nat.zero_le _, rfl, rfl, rfl, by simp [Hid, leV], rfl, HB.out, Fr.refl _ _⟩
  case round =>
    obtain ⟨j, N, q, hjm, hjn, rfl, rfl, rfl, HNj, HQ, hbr, HF⟩ := hrel
    obtain ⟨c0, c1, cz⟩ := blk2 hbr
    have HBR := hid hbr
    clear hbr
    by_cases hlt : j < m
    · by_cases hin : j < n
      · have hqt : q < t.size := by have := HQ.out; omega
        have hin' : decide ((q : Int) < (t.size : Int)) = true := by simp; omega
        have HBT : Hid (r.getD j 0 = t[q].toNat) := by
          unfold Hid
          rw [← bytesOf_at hqt, ← HR.out, HQ.out]
          simp [List.getD]
        have hb1 : t[q].toNat < 256 := t[q].toNat_lt
        have HSN : Hid (leV (r.take (j + 1)) = N + pl j * t[q].toNat) := by
          have hjr : j < r.length := by rw [HN.out]; exact hin
          unfold Hid
          rw [List.take_succ_eq_append_getElem hjr, leV_snoc, ← HNj.out, List.length_take, Nat.min_eq_left (by omega), pl_lt (by omega), ← HBT.out]
          simp [List.getD, hjr]
        have hNb : N + pl j * t[q].toNat < 18446744073709551616 := by
          have h1 := leV_take HRB.out (j + 1)
          rw [HSN.out] at h1
          exact Nat.lt_of_lt_of_le h1 (Nat.pow_le_pow_right (n := 256) (by decide) (show j + 1 ≤ 8 by omega))
        have hpn := pl_next (show j < 8 by omega)
        generalize hbe : t[q].toNat = b at *
        have HBE := hid hbe
        clear hbe
        have hpb : ((pl j * b : Nat) : Int) = (pl j : Int) * (b : Int) := Int.natCast_mul ..
        have hw0 : IntKind.u64.wrap (b : Int) = (b : Int) := by rw [wrapU64, u64_nat' (by omega)]
        have hw1 : IntKind.u64.wrap ((pl j : Int) * (b : Int)) = (pl j : Int) * (b : Int) := by rw [← hpb, wrapU64, u64_nat' (by omega)]
        have hw2 : IntKind.u64.wrap ((N : Int) + (pl j : Int) * (b : Int)) = (N : Int) + (pl j : Int) * (b : Int) := by rw [← hpb, ← Int.natCast_add, wrapU64, u64_nat' (by omega)]
        have HPB := hid hpb
        clear hpb
        go_wp2_with fail
        go_quiet (fail)
        go_wp2_with fail
        go_quiet (fail)
        go_wp2_with fail
        go_roundw
        case rel =>
          refine ⟨j + 1, N + pl j * b, q + 1, by omega, by omega, ?_, ?_, by go_num, HSN.out.symm, by have := HQ.out; unfold Hid; omega, ?_, ?_⟩
          · rw [HBE.out, hw0, hw1, hw2, Int.natCast_add, HPB.out]
          · rfl
          · refine (blk_set (i := 1) (.int .i64 ((q : Int) + 1)) ((drewN_heap wr _ p).trans HBR.out)).trans ?_
            simp
          · exact (HF.out.drewN _).set (fun _ => rfl) _
        case measure => simp [intOf]; omega
      · have hqt : ¬ q < t.size := by have := HQ.out; omega
        have hin' : decide (q < t.size) = false := by simp; omega
        have HE : Hid (r.take m = r.take j ∧ r.drop m = r.drop j) := by
          have h1 : r.length ≤ j := by rw [HN.out]; omega
          exact ⟨by rw [List.take_of_length_le (by omega), List.take_of_length_le h1], by rw [List.drop_eq_nil_of_le (by omega), List.drop_eq_nil_of_le h1]⟩
        go_wp2_with fail
        go_quiet (fail)
        go_wp2_with fail
        go_ret
        exact next_done HR.out ha hrl hm hjm hjn HNj.out HQ.out HBR.out HF.out HE.out nq
    · have HE : Hid (r.take m = r.take j ∧ r.drop m = r.drop j) := by obtain rfl : j = m := (by omega); exact ⟨rfl, rfl⟩
      have hlt' : decide (j < m) = false := by simp; omega
      go_wp2_with fail
      go_quiet (fail)
      go_wp2_with fail
      go_ret
      exact next_done HR.out ha hrl hm hjm hjn HNj.out HQ.out HBR.out HF.out HE.out nq

theorem toldNums_snoc : ∀ (j : Nat) (r : List Nat), toldNums (j + 1) r = toldNums j r ++ [s64 (leV ((r.drop (8 * j)).take 8))]
  | 0, r => by simp [toldNums]
  | j + 1, r => by
    rw [toldNums, toldNums_snoc j (r.drop 8), toldNums, List.cons_append, List.drop_drop, show 8 + 8 * j = 8 * (j + 1) by omega]
/-- A list of which the first j are read. -/
def rowAt (j m : Nat) (r : List Nat) : List Int := toldNums j r ++ List.replicate (m - j) 0
theorem rowAt_length {j m : Nat} (r : List Nat) (h : j ≤ m) : (rowAt j m r).length = m := by simp [rowAt, toldNums_length]; omega
theorem rowAt_set {j m : Nat} (r : List Nat) (h : j < m) : (rowAt j m r).set j (s64 (leV ((r.drop (8 * j)).take 8))) = rowAt (j + 1) m r := by
  unfold rowAt
  obtain ⟨d, hd⟩ : ∃ d, m - j = d + 1 := ⟨m - j - 1, by omega⟩
  rw [List.set_append_right _ _ (by rw [toldNums_length]; exact Nat.le_refl _), toldNums_length, Nat.sub_self, hd, List.replicate_succ, List.set_cons_zero, toldNums_snoc, List.append_assoc, show m - (j + 1) = d by omega]
  rfl
theorem made_zeros (m : Nat) (r : List Nat) : (madeCells (Value.int .i64 0).cells (m * 1)).toList = ints (rowAt 0 m r) := by
  have e : (Value.int IntKind.i64 0).cells = #[Value.int .i64 0] := rfl
  rw [e, Nat.mul_one]
  unfold madeCells rowAt ints
  apply List.ext_getElem (by simp [toldNums])
  intro i h1 h2
  simp [toldNums, Nat.mod_one]

set_option maxHeartbeats 1000000 in
set_option maxRecDepth 100000 in
theorem numbers_any (p m : Nat) (t : ByteArray) (r : List Nat) (w : World) (h : RdAt w p t r) (ht : t.size ≤ 140737488355328) (hm : m < 256) :
    Calls Try.prog 89 #[.pointer (some ⟨p, 0, none⟩), .int .i64 (m : Int)] w fun e w' => e = .returned (.slice (some ⟨w.heap.size, 0, none⟩) m m) ∧ w'.ownsRow w.heap.size 3 1 (.slice (some ⟨w.heap.size, 0, none⟩) m m) m (ints (toldNums m r)) ∧ RdAt w' p t (r.drop (8 * m)) ∧ Fr (fun b => b = p) w w' := by
  obtain ⟨i0, hi0, hz0, hz1, hz2⟩ := info_parts Try.infoInt
  have HRD := hid h
  have hpz : p < w.heap.size := by obtain ⟨a, _, h2, _⟩ := h; exact lt_of_blk' h2
  have HNX := hid (fun (r' : List Nat) (w' : World) (h' : RdAt w' p t r') => next_any p 8 t r' w' h' ht (by decide))
  clear h
  go_enter Try.func89, Try.ntmps89
  go_wp2_with (first | (at_make; refine wpList_make_full _ rfl _ _ 91 rfl w.heap.size 3 i0 (.int .i64 0) 1 Try.underlying91 hi0 hz0 hz1 _ _ _ _ m rfl rfl (by rfl) (by rfl) (by rw [hz2]; omega) (by unfold maxLen; omega) (Nat.le_refl _) ?_; intro w1 hown1 hgrow1))
  have HO1 : Hid (w1.ownsRow w.heap.size 3 1 (.slice (some ⟨w.heap.size, 0, none⟩) m m) m (ints (rowAt 0 m r))) := by rw [made_zeros m r] at hown1; exact hown1
  have HF1 : Hid (Fr (fun b => b = p) w w1) := Fr.below ((Below.refl _ _).grown hgrow1 (Nat.le_refl _) (fun k h => by cases h))
  have HR1 : Hid (RdAt w1 p t r) := HRD.out.keep (hgrow1.block p hpz (by simp))
  generalize hG : w.heap.size = G at *
  have HG := hid hG
  clear hown1 hgrow1 hG
  go_loopw [11] (fun si wr => ∃ j : Nat, j ≤ m ∧ si = .int .i64 j ∧ Hid (wr.ownsRow G 3 1 (.slice (some ⟨G, 0, none⟩) m m) m (ints (rowAt j m r))) ∧ Hid (RdAt wr p t (r.drop (8 * j))) ∧ Hid (Fr (fun b => b = p) w wr)) (fun si _ => m - (intOf si).toNat)
  case atStart => exact ⟨0, Nat.zero_le _, rfl, HO1, HR1, HF1⟩
  case round =>
    obtain ⟨j, hj, rfl, HO, HR, HF⟩ := hrel
    by_cases hlt : j < m
    · go_wp2_with fail
      refine (HNX.out _ _ HR.out).mono ?_
      rintro e w2 ⟨rfl, hr2, hf2⟩
      have hown2 : w2.ownsRow G 3 1 (.slice (some ⟨G, 0, none⟩) m m) m (ints (rowAt j m r)) := ownsRow_block HO.out (fun g e => by simp [Value.ownBlock] at e; subst e; exact hf2.block _ (ownsRow_lt HO.out rfl) (by omega))
      have hgz : G < w2.heap.size := ownsRow_lt hown2 rfl
      have hcell : w2.cell? ⟨G, j, none⟩ = some (.int .i64 ((rowAt j m r).getD j 0)) := ownsRow_cell hown2 (by have hl := rowAt_length r hj; simp [ints, List.getD, hl, hlt])
      have hfz : ∀ o, w2.frozen? ⟨G, o, none⟩ = false := fun o => by
        rcases hown2.2 with ⟨e, _⟩ | ⟨g', c', cur, e, _, hh, _⟩
        · cases e
        · cases e; simp [World.frozen?, hh]
      have HST := hid ((hown2.stored j (.int .i64 (s64 (leV ((r.drop (8 * j)).take 8))))).1)
      have HRS := hid (rowAt_set r hlt)
      have HDD : Hid ((r.drop (8 * j)).drop 8 = r.drop (8 * (j + 1))) := by unfold Hid; rw [List.drop_drop, show 8 * j + 8 = 8 * (j + 1) by omega]
      have HF2 := hid hf2
      have HR2 := hid hr2
      generalize s64 (leV ((r.drop (8 * j)).take 8)) = x at *
      generalize (rowAt j m r).getD j 0 = y at *
      clear hown2 hf2 hr2
      go_wp2_with fail
      go_roundw
      case rel =>
        refine ⟨j + 1, by omega, by go_num, ?_, ?_, ?_⟩
        · have := HST.out
          rw [show (ints (rowAt j m r)).set j (.int .i64 x) = ints (rowAt (j + 1) m r) from by rw [← HRS.out]; simp [ints, List.map_set]] at this
          exact this
        · have := HR2.out
          rw [HDD.out] at this
          exact this.keep (Below.heap_setCell _ _ _ _ (by simp; omega))
        · refine Fr.set (HF.out.trans HF2.out (fun _ _ h => h)) (fun hlt' => ?_) _
          have := HG.out
          simp at hlt'; omega
      case measure => simp [intOf]; omega
    · obtain rfl : j = m := by omega
      go_wp2_with fail
      go_ret
      rw [HG.out]
      refine ⟨rfl, ?_, HR.out, HF.out⟩
      have := HO.out
      simpa [rowAt] using this

end Go.Proofs.Ytklicjbpjigfdab
