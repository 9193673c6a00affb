/- DERIVED. The cells of a row of texts. -/
import Derived.Test.YtklicjbpjigfdabQ1
import Derived.Test.YtklicjbpjigfdabQ14
import Derived.BigQuiet
import Derived.Test.YtklicjbpjigfdabQ10
import Derived.Test.YtklicjbpjigfdabQ9
import Derived.Test.YtklicjbpjigfdabQ12
namespace Go.Proofs.Ytklicjbpjigfdab
open Go.RowKit

theorem Try.infoStr : (Try.prog.info? 9).map (fun i => (i.zero, i.size, i.bytes)) = some (some (.string ByteArray.empty), 1, 16) := by kernel_rfl
def strs (T : Nat → ByteArray) (r : Nat) : List Value := (List.range r).map (fun i => .string (T i))
theorem strs_succ (T : Nat → ByteArray) (r : Nat) : strs T (r + 1) = strs T r ++ [.string (T r)] := by simp [strs, List.range_succ]
theorem strs_length (T : Nat → ByteArray) (r : Nat) : (strs T r).length = r := by simp [strs]
theorem strs_at (T : Nat → ByteArray) {r i : Nat} (h : i < r) : (strs T r)[i]? = some (.string (T i)) := by simp [strs, h]

theorem one_str (t : ByteArray) : ∀ u ∈ [Value.string t], u.oneCell' = true := by
  intro u hu
  simp at hu
  subst hu
  rfl
theorem one_strnew {w : World} {H : Nat} (hH : w.heap.size = H) (t : ByteArray) (e : TypeId) : ∀ j u, [Value.string t][j]? = some u → (w.alloc (.cells #[.string t] e)).cell? ((⟨H, 0, none⟩ : Addr).add j) = some u := by
  subst hH
  intro j u hu
  match j, hu with
  | 0, hu => simp at hu; subst hu; simp [Addr.add]

theorem blk5 {w : World} {r : Nat} {a b c d x : Value} {e : TypeId} (h : w.heap[r]? = some (.cells #[a, b, c, d, x] e (0, 0))) :
    w.cell? ⟨r, 0, none⟩ = some a ∧ w.cell? ⟨r, 1, none⟩ = some b ∧ w.cell? ⟨r, 2, none⟩ = some c ∧ w.cell? ⟨r, 3, none⟩ = some d ∧ w.cell? ⟨r, 4, none⟩ = some x ∧ (∀ o, w.frozen? ⟨r, o, none⟩ = false) := by
  simp [World.cell?, World.frozen?, h]

end Go.Proofs.Ytklicjbpjigfdab

/- DERIVED. The walks of the book that loop: took, look, still. -/
namespace Go.Proofs.Ytklicjbpjigfdab
open Go.RowKit
attribute [local go_sem ↓] Go.wp_at_zero Go.wp_at_succ
variable {K : Nat → Prop} {w0 : World}

theorem sndL_at (l : List (Nat × Nat)) {j : Nat} (h : j < l.length) : (sndL l).getD j 0 = ((l.getD j (0, 0)).1 : Int) ∧ (seqL l).getD j 0 = ((l.getD j (0, 0)).2 : Int) := by
  simp [sndL, seqL, List.getD, h]
theorem sndL_len (l : List (Nat × Nat)) : (sndL l).length = l.length ∧ (seqL l).length = l.length := by simp [sndL, seqL]

set_option maxHeartbeats 1000000 in
set_option maxRecDepth 100000 in
theorem ptook_any (q : Nat) (l : List (Nat × Nat)) (a b : Int) (vx vw : Value) (w : World) (h2 : w.cell? ⟨q, 2, none⟩ = some vx) (h3 : w.cell? ⟨q, 3, none⟩ = some vw) (hx : Ints w vx (sndL l)) (hw : Ints w vw (seqL l)) (hl : l.length ≤ 1099511627776) :
    Calls Try.prog 85 #[.pointer (some ⟨q, 0, none⟩), .int .i64 a, .int .i64 b] w fun e w' => e = .returned (.bool (tookB l a b)) ∧ w' = w := by
  obtain ⟨ao, ca, rfl, _, _, hno, hso⟩ := hx.form
  obtain ⟨bo, cb, rfl, _, _, hno2, hso2⟩ := hw.form
  rw [(sndL_len l).1] at hso h2
  rw [(sndL_len l).2] at hso2 h3
  generalize hn : l.length = n at *
  have HN := hid hn
  have HNO := hid hno
  have HSO := hid hso
  have HNO2 := hid hno2
  have HSO2 := hid hso2
  have HXL := hid (sndL_len l)
  have HSA := hid (fun j (hj : j < n) => sndL_at l (j := j) (by rw [hn]; exact hj))
  clear hn hno hso hno2 hso2 hx hw
  go_enter Try.func85, Try.ntmps85
  go_wp2_with fail
  go_loopw [7] (fun s wr => ∃ j : Nat, j ≤ n ∧ s = .int .i64 j ∧ wr = w ∧ Hid (tookB (l.take j) a b = false)) (fun s _ => n - (intOf s).toNat)
  case atStart => exact ⟨0, Nat.zero_le _, rfl, rfl, by simp [tookB, Hid]⟩
  case round =>
    obtain ⟨j, hj, rfl, hw, Ht⟩ := hrel
    obtain rfl := hw.symm
    by_cases hjn : j < n
    · obtain ⟨gc, rfl⟩ : ∃ g, ao = some ⟨g, 0, none⟩ := by
        cases ao with
        | none => have h9 := (HNO.out rfl).1; have h8 := HXL.out.1; rw [h9] at h8; simp at h8; have := HN.out; omega
        | some a => obtain ⟨g, rfl, _⟩ := HSO.out a rfl; exact ⟨g, rfl⟩
      obtain ⟨gc', e1, hgc, hcc⟩ := HSO.out _ rfl
      cases e1
      obtain ⟨gd, rfl⟩ : ∃ g, bo = some ⟨g, 0, none⟩ := by
        cases bo with
        | none => have h9 := (HNO2.out rfl).1; have h8 := HXL.out.2; rw [h9] at h8; simp at h8; have := HN.out; omega
        | some a => obtain ⟨g, rfl, _⟩ := HSO2.out a rfl; exact ⟨g, rfl⟩
      obtain ⟨gd', e2, hgd, hcd⟩ := HSO2.out _ rfl
      cases e2
      have r0 := hcc j hjn
      have r1 := hcd j hjn
      rw [(HSA.out j hjn).1] at r0
      rw [(HSA.out j hjn).2] at r1
      have HF := hid (tookB_take (l := l) (a := a) (b := b) (j := j) (by rw [HN.out]; exact hjn))
      have HO := hid (tookB_of (l := l) (a := a) (b := b) (j := j) (by rw [HN.out]; exact hjn))
      generalize l.getD j (0, 0) = pp at *
      obtain ⟨x, y⟩ := pp
      simp only at r0 r1 HF HO
      have hs1 : (0 : Int) ≤ (j : Int) := by omega
      have hs2 : (j : Int) < (n : Int) := by omega
      clear hcc hcd
      by_cases e1 : (x : Int) = a
      · by_cases e2 : (y : Int) = b
        · have hO : tookB l a b = true := HO.out (by simp [e1, e2])
          have HO' := hid hO
          clear hO
          go_wp2_with fail
          go_ret
          exact ⟨by rw [HO'.out]; rfl, rfl⟩
        · have e2' : ((y : Int) == b) = false := by simpa using e2
          go_wp2_with fail
          go_roundw
          case rel => exact ⟨j + 1, by omega, by go_num, trivial, by unfold Hid; rw [HF.out, Ht.out, e2']; simp⟩
          case measure => simp [intOf]; omega
      · have e1' : ((x : Int) == a) = false := by simpa using e1
        go_wp2_with fail
        go_roundw
        case rel => exact ⟨j + 1, by omega, by go_num, trivial, by unfold Hid; rw [HF.out, Ht.out, e1']; simp⟩
        case measure => simp [intOf]; omega
    · have hjn' : j = n := by omega
      have hT : tookB l a b = false := by
        have := Ht.out
        rw [hjn', ← HN.out, List.take_length] at this
        exact this
      have HT' := hid hT
      clear hT
      go_wp2_with fail
      go_ret
      exact ⟨by rw [HT'.out]; rfl, rfl⟩

/-- A row of texts in memory. -/
def Strs (w : World) (v : Value) (n : Nat) (T : Nat → ByteArray) : Prop := w.ownsRow 0 9 1 v n (strs T n)
theorem Strs.form {w : World} {v : Value} {n : Nat} {T : Nat → ByteArray} (h : Strs w v n T) : ∃ ao c, v = .slice ao n c ∧ ∀ i, i < n → ∃ g, ao = some ⟨g, 0, none⟩ ∧ g < w.heap.size ∧ w.cell? ⟨g, i, none⟩ = some (.string (T i)) := by
  have h' : w.ownsRow 0 9 1 v n (strs T n) := h
  rcases h'.2 with ⟨e, hn⟩ | ⟨g, cap, cur, e, _⟩
  · exact ⟨none, 0, by rw [e, hn], fun i hi => by omega⟩
  · refine ⟨some ⟨g, 0, none⟩, cap, e, fun i hi => ⟨g, rfl, ?_, ?_⟩⟩
    · exact ownsRow_lt h' (by rw [e]; rfl)
    · rw [e] at h'
      exact ownsRow_cell h' (strs_at T hi)

set_option maxHeartbeats 1000000 in
set_option maxRecDepth 100000 in
theorem still_any (va vb : Value) (m n : Nat) (S T : Nat → ByteArray) (but : Int) (w : World) (ha : Strs w va m S) (hb : Strs w vb n T) (hmn : m ≤ n) (hn8 : n ≤ 8) (heq : ∀ i, i < m → (i : Int) ≠ but → S i = T i) :
    Calls Try.prog 28 #[va, vb, .int .i64 but] w fun e w' => e = .returned (.bool true) ∧ Below w.heap.size w w' := by
  obtain ⟨ao, ca, rfl, hso⟩ := ha.form
  obtain ⟨bo, cb, rfl, hso2⟩ := hb.form
  have HSO := hid hso
  have HSO2 := hid hso2
  have HEQ := hid heq
  have g0 : ¬ ((n : Int) < (m : Int)) := by omega
  clear hso hso2 ha hb heq
  go_enter Try.func28, Try.ntmps28
  go_wp2_with fail
  go_loopw [7] (fun s wr => ∃ k q : Nat, k ≤ m ∧ s = .int .i64 k ∧ wr = w.drewN q) (fun s _ => m - (intOf s).toNat)
  case atStart => exact ⟨0, 0, Nat.zero_le _, rfl, rfl⟩
  case round =>
    obtain ⟨k, q, hk, rfl, rfl⟩ := hrel
    by_cases hkn : k < m
    · obtain ⟨gc, rfl, hgc, hcell⟩ := HSO.out k hkn
      obtain ⟨gd, rfl, hgd, hcell2⟩ := HSO2.out k (by omega)
      have hs1 : (0 : Int) ≤ (k : Int) := by omega
      have hs2 : (k : Int) < (m : Int) := by omega
      have hs3 : (k : Int) < (n : Int) := by omega
      by_cases hbt : (k : Int) = but
      · have hb' : ((k : Int) != but) = false := by simpa using hbt
        go_wp2_with fail
        go_quiet (fail)
        go_wp2_with fail
        go_roundw
        case rel => exact ⟨k + 1, q + nq, by omega, by go_num, rfl⟩
        case measure => simp [intOf]; omega
      · have hb' : ((k : Int) != but) = true := by simpa using hbt
        have e := HEQ.out k hkn hbt
        rw [← e] at hcell2
        go_wp2_with fail
        go_quiet (fail)
        go_wp2_with fail
        go_roundw
        case rel => exact ⟨k + 1, q + nq, by omega, by go_num, rfl⟩
        case measure => simp [intOf]; omega
    · go_wp2_with fail
      go_ret
      exact ⟨rfl, below_drewN (Below.refl _ _) _⟩

end Go.Proofs.Ytklicjbpjigfdab

/- DERIVED. Plain mathematics of ranks: what the items weigh that are at most q, and how far that is off. -/
namespace Go.Proofs.Ytklicjbpjigfdab
open Go.RowKit

/-- How many are at most q. -/
def cnt (q : Int) (l : List Int) : Nat := l.countP (fun a => decide (a ≤ q))
theorem cnt_nil (q : Int) : cnt q [] = 0 := rfl
theorem cnt_cons (q x : Int) (l : List Int) : cnt q (x :: l) = cnt q l + (if x ≤ q then 1 else 0) := by
  unfold cnt; rw [List.countP_cons]; simp
theorem cnt_append (q : Int) (a b : List Int) : cnt q (a ++ b) = cnt q a + cnt q b := by unfold cnt; rw [List.countP_append]
theorem cnt_le (q : Int) (l : List Int) : cnt q l ≤ l.length := List.countP_le_length
theorem cnt_jn (q : Int) : ∀ (B A : List Int), cnt q (jn A B) = cnt q A + cnt q B := by
  intro B
  induction B with
  | nil => intro A; rw [jn_nil, cnt_nil]; rfl
  | cons x B ih =>
    intro A
    have h := congrArg (cnt q) (List.takeWhile_append_dropWhile (p := fun a => decide (a ≤ x)) (l := A))
    rw [cnt_append] at h
    simp only [jn, cnt_append, cnt_cons, ih]
    omega
theorem cnt_zero {q : Int} {l : List Int} (h : ∀ x ∈ l, q < x) : cnt q l = 0 := by
  unfold cnt
  rw [List.countP_eq_zero]
  intro x hx
  have := h x hx
  simp; omega
theorem cnt_all {q : Int} {l : List Int} (h : ∀ x ∈ l, x ≤ q) : cnt q l = l.length := by
  unfold cnt
  rw [List.countP_eq_length]
  intro x hx
  have := h x hx
  simpa using this
/-- Of a rising list every second one. -/
theorem cnt_evens (q : Int) : ∀ l : List Int, Srt l → cnt q (evens l) = (cnt q l + 1) / 2
  | [], _ => by simp [evens, cnt_nil]
  | [x], _ => by simp only [evens, cnt_cons, cnt_nil]; split <;> omega
  | x :: y :: r, h => by
    have hr : Srt r := List.Pairwise.of_cons (List.Pairwise.of_cons h)
    have ih := cnt_evens q r hr
    have hxy : x ≤ y := List.rel_of_pairwise_cons h (by simp)
    simp only [evens, cnt_cons, ih]
    by_cases hy : y ≤ q
    · rw [if_pos hy, if_pos (by omega)]; omega
    · have h0 : cnt q r = 0 := cnt_zero (fun z hz => by have := List.rel_of_pairwise_cons (List.Pairwise.of_cons h) hz; omega)
      rw [if_neg hy, h0]; split <;> omega
theorem cnt_odds (q : Int) : ∀ l : List Int, Srt l → cnt q (evens (l.drop 1)) = cnt q l / 2
  | [], _ => by simp [evens, cnt_nil]
  | x :: r, h => by
    have hr : Srt r := List.Pairwise.of_cons h
    rw [List.drop_one, List.tail_cons, cnt_evens q r hr, cnt_cons]
    by_cases hx : x ≤ q
    · rw [if_pos hx]
    · have h0 : cnt q r = 0 := cnt_zero (fun z hz => by have := List.rel_of_pairwise_cons h hz; omega)
      rw [if_neg hx, h0]
/-- What goes up, by the coin. -/
theorem cnt_up (q : Int) (its : List Int) (h : Srt its) (c : Bool) : cnt q (upOf its c) = if c then cnt q (its.drop (its.length % 2)) / 2 else (cnt q (its.drop (its.length % 2)) + 1) / 2 := by
  have hd : Srt (its.drop (its.length % 2)) := h.sublist (List.drop_sublist _ _)
  unfold upOf
  cases c
  · simp only [Bool.false_eq_true, if_false, Nat.add_zero]
    exact cnt_evens q _ hd
  · simp only [if_true]
    rw [← List.drop_drop]
    exact cnt_odds q _ hd
theorem cnt_split (q : Int) (its : List Int) (n : Nat) : cnt q (its.take n) + cnt q (its.drop n) = cnt q its := by
  rw [← cnt_append, List.take_append_drop]

/-- What the items weigh that are at most q. -/
def usum (q : Int) : List Lvl → Nat
  | [] => 0
  | l :: L => cnt q l.items + 2 * usum q L
theorem usum_le (q : Int) : ∀ L, usum q L ≤ wsum L
  | [] => Nat.le_refl _
  | l :: L => by have := usum_le q L; have := cnt_le q l.items; simp only [usum, wsum]; omega
theorem usum_snoc (q : Int) (L : List Lvl) : usum q (L ++ [Lvl.none]) = usum q L := by
  induction L with
  | nil => rfl
  | cons l L ih => simp only [List.cons_append, usum, ih]
theorem usum_at1 (q : Int) (L : List Lvl) (h : Nat) : usum q (at1 L h) = usum q L := by
  unfold at1; split
  · exact usum_snoc q L
  · rfl
theorem usum_setItems {q : Int} {L : List Lvl} {h : Nat} {X : List Int} (hh : h < L.length) : usum q (setItems L h X) + 2 ^ h * cnt q (L.getD h Lvl.none).items = usum q L + 2 ^ h * cnt q X := by
  induction L generalizing h with
  | nil => simp at hh
  | cons l L ih =>
    cases h with
    | zero => simp [setItems, usum]; omega
    | succ h =>
      have := ih (h := h) (by simpa using hh)
      simp only [setItems, List.getD_cons_succ, List.set_cons_succ, usum] at this ⊢
      rw [Nat.pow_succ, Nat.mul_right_comm, Nat.mul_right_comm (2 ^ h) 2]
      omega
theorem usum_bit {q x : Int} {w h : Nat} {L : List Lvl} (hh : h < L.length) : usum q (bit1 x w L h) = usum q L + 2 ^ h * (if x ≤ q then w % 2 else 0) := by
  unfold bit1
  split
  · rename_i e
    have := usum_setItems (q := q) (X := jn (L.getD h Lvl.none).items [x]) hh
    rw [cnt_jn, Nat.mul_add, cnt_cons, cnt_nil, e] at *
    simp only [Nat.zero_add] at this
    omega
  · rename_i e
    have : w % 2 = 0 := by omega
    rw [this]; simp
theorem usum_with {q x : Int} : ∀ {f w h : Nat} {L : List Lvl}, w < 2 ^ f → h ≤ L.length → usum q (withFrom x f w h L) = usum q L + 2 ^ h * (if x ≤ q then w else 0) := by
  intro f
  induction f with
  | zero => intro w h L hw hh; simp at hw; subst hw; simp [withFrom]
  | succ f ih =>
    intro w h L hw hh
    by_cases h0 : w = 0
    · subst h0; rw [withFrom_zero]; simp
    · have hl : h < (at1 L h).length := by rw [at1_length]; split <;> omega
      rw [withFrom_step (by omega), ih (by rw [Nat.pow_succ] at hw; omega) (by rw [bit1_length]; omega), usum_bit hl, usum_at1, Nat.pow_succ, Nat.add_assoc, Nat.mul_assoc, ← Nat.mul_add]
      congr 2
      split <;> omega
theorem usum_merge (q : Int) : ∀ (T L : List Lvl), usum q (mergeL L T) = usum q L + usum q T := by
  intro T
  induction T with
  | nil => intro L; rw [mergeL_nil]; simp [usum]
  | cons t T ih =>
    intro L
    cases L with
    | nil => simp only [mergeL, usum, cnt_jn, ih, cnt_nil]; omega
    | cons l L => simp only [mergeL, usum, cnt_jn, ih]; omega

theorem esum_merge : ∀ (T L : List Lvl), esum (mergeL L T) = esum L + esum T := by
  intro T
  induction T with
  | nil => intro L; rw [mergeL_nil]; simp [esum]
  | cons t T ih =>
    intro L
    cases L with
    | nil => simp only [mergeL, esum, ih]; omega
    | cons l L => simp only [mergeL, esum, ih]; omega
theorem ssum_merge : ∀ (T L : List Lvl), ssum (mergeL L T) = ssum L + ssum T := by
  intro T
  induction T with
  | nil => intro L; rw [mergeL_nil]; simp [ssum]
  | cons t T ih =>
    intro L
    cases L with
    | nil => simp only [mergeL, ssum, ih]; omega
    | cons l L => simp only [mergeL, ssum, ih]; omega
theorem esum_snoc (L : List Lvl) : esum (L ++ [Lvl.none]) = esum L := by
  induction L with
  | nil => rfl
  | cons l L ih => simp only [List.cons_append, esum, ih]
theorem esum_setItems (L : List Lvl) (h : Nat) (X : List Int) : esum (setItems L h X) = esum L := by
  induction L generalizing h with
  | nil => simp [setItems]
  | cons l L ih =>
    cases h with
    | zero => simp [setItems, esum]
    | succ h =>
      have := ih h
      simp only [setItems, List.getD_cons_succ, List.set_cons_succ, esum] at this ⊢
      omega
theorem esum_with {x : Int} : ∀ {f w h : Nat} {L : List Lvl}, esum (withFrom x f w h L) = esum L := by
  intro f
  induction f with
  | zero => intro w h L; rfl
  | succ f ih =>
    intro w h L
    by_cases h0 : w = 0
    · subst h0; rw [withFrom_zero]
    · rw [withFrom_step (by omega), ih]
      have e1 : esum (at1 L h) = esum L := by
        unfold at1; split
        · exact esum_snoc L
        · rfl
      unfold bit1; split
      · rw [esum_setItems, e1]
      · exact e1

/-- A thinning: the error grows by the weight of one item; the ranks move by that at most. -/
theorem esum_thin {c : Bool} : ∀ {L : List Lvl} {h : Nat}, h < L.length → esum (thinL L h c) = esum L + 2 ^ h
  | [], _, hh => by simp at hh
  | [l], 0, _ => by rw [thinL_one]; simp [esum]
  | l :: m :: L, 0, _ => by rw [thinL_two]; simp only [esum]; omega
  | l :: L, j + 1, hh => by
    have := esum_thin (c := c) (L := L) (h := j) (by simpa using hh)
    rw [thinL_succ]
    simp only [esum, this, Nat.pow_succ]; omega
theorem usum_thin {q : Int} {X : List Int} {c : Bool} : ∀ {L : List Lvl} {h : Nat}, h < L.length → LvOk X L → usum q (thinL L h c) ≤ usum q L + 2 ^ h ∧ usum q L ≤ usum q (thinL L h c) + 2 ^ h
  | [], _, hh, _ => by simp at hh
  | [l], 0, _, hL => by
    have h1 := cnt_up q l.items (hL l (by simp)).1 c
    have h2 := cnt_split q l.items (l.items.length % 2)
    rw [thinL_one]
    simp only [usum, cnt_jn, cnt_nil, Nat.zero_add, Nat.pow_zero, h1]
    split <;> omega
  | l :: m :: L, 0, _, hL => by
    have h1 := cnt_up q l.items (hL l (by simp)).1 c
    have h2 := cnt_split q l.items (l.items.length % 2)
    rw [thinL_two]
    simp only [usum, cnt_jn, Nat.pow_zero, h1]
    split <;> omega
  | l :: L, j + 1, hh, hL => by
    have := usum_thin (q := q) (c := c) (L := L) (h := j) (by simpa using hh) (fun l hl => hL l (by simp [hl]))
    rw [thinL_succ]
    simp only [usum, Nat.pow_succ]; omega
theorem usum_settle {q : Int} {X : List Int} {k : Nat} : ∀ {cs : List Bool} {u : Nat} {L L' : List Lvl} {u' : Nat}, LvOk X L → settle k cs u L = some (L', u') → usum q L' + esum L ≤ usum q L + esum L' ∧ usum q L + esum L ≤ usum q L' + esum L' := by
  intro cs
  induction cs with
  | nil => intro u L L' u' _ hs; simp only [settle] at hs; split at hs <;> simp at hs; rw [← hs.1]; exact ⟨Nat.le_refl _, Nat.le_refl _⟩
  | cons c cs ih =>
    intro u L L' u' hL hs
    simp only [settle] at hs
    split at hs
    · simp at hs; rw [← hs.1]; exact ⟨Nat.le_refl _, Nat.le_refl _⟩
    · rename_i r hr
      obtain ⟨h1, _, _⟩ := toThinL_some hr
      have a := ih (hL.thin r c) hs
      have e := esum_thin (c := c) h1
      have u1 := usum_thin (q := q) (c := c) h1 hL
      omega

/-- The items' ranks are those of r, up to the error. -/
def Near (q : Int) (L : List Lvl) (r : Nat) : Prop := usum q L ≤ r + esum L ∧ r ≤ usum q L + esum L
theorem Near.settle {q : Int} {X : List Int} {k : Nat} {cs : List Bool} {u : Nat} {L L' : List Lvl} {u' r : Nat} (h : Near q L r) (hL : LvOk X L) (hs : settle k cs u L = some (L', u')) : Near q L' r := by
  have a := usum_settle (q := q) hL hs
  unfold Near at *
  omega

end Go.Proofs.Ytklicjbpjigfdab

/- DERIVED. Plain mathematics of all of a side coming into another (or into itself). -/
namespace Go.Proofs.Ytklicjbpjigfdab

/-- The side behind the first r of the numbers. -/
def putN (s : Sd) (xs : List Int) (ws : List Nat) : Nat → Sd
  | 0 => s
  | r + 1 => (putN s xs ws r).put (xs.getD r 0) (ws.getD r 0)
/-- All of side t comes into side s. -/
def Sd.all (s t : Sd) : Sd := { putN s t.xs t.ws t.xs.length with k := if t.k < s.k then t.k else s.k, ones := s.ones && t.ones }

theorem putXs_mem {s : Sd} {x : Int} (h : x ∈ s.xs) : putXs s x = s.xs := by
  unfold putXs
  cases hf : findAt x 0 s.xs with
  | none => exact absurd h (findAt_none.1 hf)
  | some i => rfl
theorem putXs_len (s : Sd) (x : Int) : (putXs s x).length ≤ s.xs.length + 1 := by
  unfold putXs; split <;> simp
theorem putN_n (s : Sd) (xs : List Int) (ws : List Nat) : ∀ r, r ≤ ws.length → (putN s xs ws r).n = s.n + wAll (ws.take r) := by
  intro r
  induction r with
  | zero => intro _; simp [putN, wAll]
  | succ r ih =>
    intro hr
    have := ih (by omega)
    show (putN s xs ws r).n + ws.getD r 0 = _
    rw [this, List.take_succ_eq_append_getElem (by omega), wAll_snoc, Nat.add_assoc]
    congr 2
    simp [List.getD, show r < ws.length by omega]
theorem putN_len (s : Sd) (xs : List Int) (ws : List Nat) : ∀ r, (putN s xs ws r).xs.length ≤ s.xs.length + r := by
  intro r
  induction r with
  | zero => exact Nat.le_refl _
  | succ r ih =>
    have := putXs_len (putN s xs ws r) (xs.getD r 0)
    show (putXs (putN s xs ws r) (xs.getD r 0)).length ≤ _
    omega
theorem putN_rest (s : Sd) (xs : List Int) (ws : List Nat) : ∀ r, (putN s xs ws r).k = s.k ∧ (putN s xs ws r).ones = s.ones ∧ (putN s xs ws r).gone = s.gone := by
  intro r
  induction r with
  | zero => exact ⟨rfl, rfl, rfl⟩
  | succ r ih => exact ih
theorem getD_mem {xs : List Int} {r : Nat} (h : r < xs.length) : xs.getD r 0 ∈ xs := by
  have : xs.getD r 0 = xs[r] := by simp [List.getD, h]
  rw [this]; exact List.getElem_mem h
/-- Into itself: no number is new. -/
theorem putN_self (s : Sd) (ws : List Nat) : ∀ r, r ≤ s.xs.length → (putN s s.xs ws r).xs = s.xs := by
  intro r
  induction r with
  | zero => intro _; rfl
  | succ r ih =>
    intro hr
    have h := ih (by omega)
    show putXs (putN s s.xs ws r) (s.xs.getD r 0) = s.xs
    rw [putXs_mem (by rw [h]; exact getD_mem (by omega)), h]

theorem wAll_take_le (ws : List Nat) (r : Nat) : wAll (ws.take r) ≤ wAll ws := by
  induction ws generalizing r with
  | nil => simp
  | cons w ws ih =>
    cases r with
    | zero => simp [wAll]
    | succ r => have := ih r; simp only [List.take_succ_cons, wAll]; omega
theorem wFilter_snoc (p : Int → Bool) : ∀ (xs : List Int) (ws : List Nat) (x : Int) (w : Nat), xs.length = ws.length → wFilter p (xs ++ [x]) (ws ++ [w]) = wFilter p xs ws + (if p x then w else 0) := by
  intro xs
  induction xs with
  | nil => intro ws x w h; cases ws with | nil => simp [wFilter] | cons => simp at h
  | cons y xs ih =>
    intro ws x w h
    cases ws with
    | nil => simp at h
    | cons v ws => simp only [List.cons_append, wFilter, ih ws x w (by simpa using h)]; omega
theorem wFilter_set (p : Int → Bool) : ∀ (xs : List Int) (ws : List Nat) (i v : Nat), i < xs.length → i < ws.length → wFilter p xs (ws.set i (ws.getD i 0 + v)) = wFilter p xs ws + (if p (xs.getD i 0) then v else 0) := by
  intro xs
  induction xs with
  | nil => intro ws i v h; simp at h
  | cons y xs ih =>
    intro ws i v h h2
    cases ws with
    | nil => simp at h2
    | cons w ws =>
      cases i with
      | zero => simp only [List.set_cons_zero, List.getD_cons_zero, wFilter]; split <;> omega
      | succ i => simp only [List.set_cons_succ, List.getD_cons_succ, wFilter, ih ws i v (by simpa using h) (by simpa using h2)]; omega
theorem wFilter_put (p : Int → Bool) {s : Sd} {x : Int} {wt : Nat} (hl : s.xs.length = s.ws.length) : wFilter p (putXs s x) (putWs s x wt) = wFilter p s.xs s.ws + (if p x then wt else 0) := by
  unfold putXs putWs
  cases hf : findAt x 0 s.xs with
  | none => exact wFilter_snoc p s.xs s.ws x wt hl
  | some i =>
    obtain ⟨_, h2, h3⟩ := findAt_some hf
    simp at h2 h3
    show wFilter p s.xs (s.ws.set i (s.ws.getD i 0 + wt)) = _
    rw [wFilter_set p s.xs s.ws i wt h2 (by omega)]
    congr 2
    rw [show s.xs.getD i 0 = x by simpa [List.getD] using h3]

end Go.Proofs.Ytklicjbpjigfdab
