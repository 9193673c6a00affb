/- DERIVED. Small calls of the document's own desk: Left, Has, New. -/
import Derived.Test.YtklicjbpjigfdabGreatRefE
import Derived.Test.YtklicjbpjigfdabGreatQ8
import Derived.Test.YtklicjbpjigfdabGreatLevelW
import Derived.Deep.RegionLaw
import Derived.Deep.DrawnRows
namespace Go.Proofs.YtklicjbpjigfdabGreat
open Go.RowKit
attribute [local go_sem ↓] Go.wp_at_zero Go.wp_at_succ

/-- A desk of the document's own, as it lies. -/
abbrev rdBlk (room : Int) (s : ByteArray) (va : Value) : Obj := .cells #[.int .i64 room, .string s, va] 58 (0, 0)

theorem rleft_any (d : Nat) (room : Int) (s : ByteArray) (va : Value) (w : World) (h : w.heap[d]? = some (rdBlk room s va)) :
    Calls Tryz.prog 25 #[.pointer (some ⟨d, 0, none⟩)] w fun e w' => e = .returned (.int .i64 (s.size : Int)) ∧ w' = w := by
  obtain ⟨c0, c1, c2, cz⟩ := blk3 h
  have hd := lt_of_blk' h
  go_enter Tryz.func25, Tryz.ntmps25
  go_wp2_with fail
  go_ret
  exact ⟨rfl, rfl⟩

theorem rhas_any (d n c : Nat) (ao : Option Addr) (i room : Int) (s : ByteArray) (w : World) (h : w.heap[d]? = some (rdBlk room s (.slice ao n c))) :
    Calls Tryz.prog 63 #[.pointer (some ⟨d, 0, none⟩), .int .i64 i] w fun e w' => e = .returned (.bool (decide (0 ≤ i ∧ i < (n : Int)))) ∧ w' = w := by
  obtain ⟨c0, c1, c2, cz⟩ := blk3 h
  have hd := lt_of_blk' h
  by_cases h0 : 0 ≤ i
  · have h0' : decide (0 ≤ i) = true := decide_eq_true h0
    by_cases h1 : i < (n : Int)
    · have HU : Hid (decide (0 ≤ i ∧ i < (n : Int)) = true) := decide_eq_true ⟨h0, h1⟩
      have h1' : decide (i < (n : Int)) = true := decide_eq_true h1
      generalize decide (0 ≤ i ∧ i < (n : Int)) = R at *
      go_enter Tryz.func63, Tryz.ntmps63
      go_wp2_with fail
      go_ret
      exact ⟨by rw [HU.out]; rfl, rfl⟩
    · have HU : Hid (decide (0 ≤ i ∧ i < (n : Int)) = false) := decide_eq_false (fun h => h1 h.2)
      have h1' : decide (i < (n : Int)) = false := decide_eq_false h1
      generalize decide (0 ≤ i ∧ i < (n : Int)) = R at *
      go_enter Tryz.func63, Tryz.ntmps63
      go_wp2_with fail
      go_ret
      exact ⟨by rw [HU.out]; rfl, rfl⟩
  · have HU : Hid (decide (0 ≤ i ∧ i < (n : Int)) = false) := decide_eq_false (fun h => h0 h.1)
    have h0' : decide (0 ≤ i) = false := decide_eq_false h0
    generalize decide (0 ≤ i ∧ i < (n : Int)) = R at *
    go_enter Tryz.func63, Tryz.ntmps63
    go_wp2_with fail
    go_ret
    exact ⟨by rw [HU.out]; rfl, rfl⟩

theorem rnew_ok (room : Nat) (w : World) (h1 : 1 ≤ room) (h2 : room ≤ 8) :
    Calls Tryz.prog 10 #[.int .i64 (room : Int)] w fun e w' => e = .returned (.tuple #[.pointer (some ⟨w.heap.size, 0, none⟩), .int .i64 0]) ∧ w' = w.alloc (rdBlk (room : Int) ⟨#[]⟩ (.slice none 0 0)) := by
  have h1' : decide ((room : Int) < 1) = false := decide_eq_false (by omega)
  have h2' : decide ((8 : Int) < (room : Int)) = false := decide_eq_false (by omega)
  go_enter Tryz.func10, Tryz.ntmps10
  go_wp2_with fail
  go_ret2
  exact ⟨rfl, rfl⟩
theorem rnew_no (room : Int) (w : World) (h : room < 1 ∨ 8 < room) :
    Calls Tryz.prog 10 #[.int .i64 room] w fun e w' => e = .returned (.tuple #[.pointer none, .int .i64 1]) ∧ w' = w := by
  by_cases h1 : room < 1
  · have h1' : decide (room < 1) = true := decide_eq_true h1
    go_enter Tryz.func10, Tryz.ntmps10
    go_wp2_with fail
    go_ret2
    exact ⟨rfl, rfl⟩
  · have h2 : 8 < room := h.resolve_left h1
    have h1' : decide (room < 1) = false := decide_eq_false h1
    have h2' : decide (8 < room) = true := decide_eq_true h2
    go_enter Tryz.func10, Tryz.ntmps10
    go_wp2_with fail
    go_ret2
    exact ⟨rfl, rfl⟩

/-- What Feed answers. -/
def fdAns (d : Nat) (t s : ByteArray) (w : World) (e : Ending) (w' : World) : Prop :=
  if areCoins s.data.toList = false then e = .returned (.int .i64 2) ∧ w' = w
  else if 1024 < t.size + s.size then e = .returned (.int .i64 3) ∧ w' = w
  else e = .returned (.int .i64 0) ∧ w' = w.setCell ⟨d, 1, none⟩ (.string (t ++ s))

set_option maxHeartbeats 1000000 in
theorem rfeed_any (d : Nat) (room : Int) (t s : ByteArray) (va : Value) (w : World) (h : w.heap[d]? = some (rdBlk room t va)) (hs : s.size + 1024 ≤ maxLen) (ht : t.size ≤ 1024) :
    Calls Tryz.prog 23 #[.pointer (some ⟨d, 0, none⟩), .string s] w fun e w' => fdAns d t s w e w' := by
  obtain ⟨c0, c1, c2, cz⟩ := blk3 h
  have hd := lt_of_blk' h
  have HP : Hid (∀ e w', fdAns d t s w e w' = (if areCoins s.data.toList = false then e = .returned (.int .i64 2) ∧ w' = w else if 1024 < t.size + s.size then e = .returned (.int .i64 3) ∧ w' = w else e = .returned (.int .i64 0) ∧ w' = w.setCell ⟨d, 1, none⟩ (.string (t ++ s)))) := fun _ _ => rfl
  unfold maxLen at hs
  clear h
  go_enter Tryz.func23, Tryz.ntmps23
  go_wp2_with fail
  go_loop [5] (fun i => ∃ k : Nat, k ≤ s.size ∧ i = .int .i64 k ∧ Hid (areCoins (s.data.toList.take k) = true)) (fun i => s.size - (intOf i).toNat)
  case atStart => exact ⟨0, Nat.zero_le _, rfl, rfl⟩
  case round =>
    obtain ⟨k, hk, rfl, Hc⟩ := hrel
    by_cases hlt : k < s.size
    · have HS := hid (take_snoc s k hlt)
      by_cases h0 : (s[k].toNat : Int) < 48
      · have h0' : decide ((s[k].toNat : Int) < 48) = true := decide_eq_true h0
        have HF := hid (areCoins_not hlt (by omega) (by omega))
        go_wp2_with fail
        go_ret
        rw [HP.out, if_pos HF.out]
        exact ⟨rfl, rfl⟩
      · have h0' : decide ((s[k].toNat : Int) < 48) = false := decide_eq_false h0
        by_cases h1 : 49 < (s[k].toNat : Int)
        · have h1' : decide (49 < (s[k].toNat : Int)) = true := decide_eq_true h1
          have HF := hid (areCoins_not hlt (by omega) (by omega))
          go_wp2_with fail
          go_ret
          rw [HP.out, if_pos HF.out]
          exact ⟨rfl, rfl⟩
        · have h1' : decide (49 < (s[k].toNat : Int)) = false := decide_eq_false h1
          have HF : Hid (areCoins (s.data.toList.take (k + 1)) = true) := by
            rw [Hid, HS.out]; exact areCoins_snoc Hc.out (by omega)
          go_wp2_with fail
          go_round
          case rel => exact ⟨k + 1, by omega, by go_num, HF⟩
          case measure => simp [intOf]; omega
    · have HT : Hid (areCoins s.data.toList = true) := by have := Hc.out; rw [List.take_of_length_le (by simp; omega)] at this; exact this
      by_cases hf : 1024 < t.size + s.size
      · have hf' : decide ((1024 : Int) < (t.size : Int) + (s.size : Int)) = true := decide_eq_true (by omega)
        go_wp2_with fail
        go_ret
        rw [HP.out, if_neg (by rw [HT.out]; decide), if_pos hf]
        exact ⟨rfl, rfl⟩
      · have hf' : decide ((1024 : Int) < (t.size : Int) + (s.size : Int)) = false := decide_eq_false (by omega)
        go_wp2_with fail
        go_ret
        rw [HP.out, if_neg (by rw [HT.out]; decide), if_neg hf]
        exact ⟨rfl, rfl⟩

end Go.Proofs.YtklicjbpjigfdabGreat

/- DERIVED. The walks of the desk that only read, more: Ends, Level, Ledger; and New. -/
namespace Go.Proofs.YtklicjbpjigfdabGreat
open Go.RowKit
variable {F : Nat → Prop}

set_option maxHeartbeats 400000 in
set_option maxRecDepth 100000 in
theorem deskEnds (d : Nat) (D : Dk) (i : Nat) (w : World) (h : DeskAt F w d D) (hi : i < D.sks.length) (hok : (D.sks.getD i Hd.none).Ok) :
    Calls Tryz.prog 39 #[.pointer (some ⟨d, 0, none⟩), .int .i64 (i : Int)] w fun e w' => e = .returned (if wsum (D.sks.getD i Hd.none).sk.lv = 0 then .tuple #[.int .i64 0, .int .i64 0, .int .i64 8] else .tuple #[.int .i64 (D.sks.getD i Hd.none).sk.lo, .int .i64 (D.sks.getD i Hd.none).sk.hi, .int .i64 0]) ∧ Below w.heap.size w w' := by
  obtain ⟨vt, vk, rs, h⟩ := h
  have hdz := lt_of_blk' h.blk
  obtain ⟨g, c, rfl, hg, q0, q1, q2, q3, q4⟩ := h.cells5 hi
  obtain ⟨_, _, c2, _⟩ := blk3 h.blk
  have HH := hid (has_any d (i : Int) _ _ _ _ c2)
  rw [hasB_nat hi] at HH
  have HL := hid (fun (w' : World) (hb : Below w.heap.size w w') => count_any (F := F) (D.sks.getD i Hd.none).sk.k _ _ (D.sks.getD i Hd.none).sk.lo (D.sks.getD i Hd.none).sk.hi _ _ w' ((h.lv i hi).below hb) (by have := hok.len; omega) (by have := hok.cnt; omega))
  generalize (D.sks.getD i Hd.none).sk = sk at *
  generalize rs.getD i Ref.none = r at *
  generalize (D.sks.getD i Hd.none).sealed = sl at *
  generalize D.sks.length = n at *
  clear h hok
  go_enter Tryz.func39, Tryz.ntmps39
  go_wp2_with (first | (go_at_call 59; refine HH.out.mono ?_; rintro e w' ⟨rfl, hw⟩; obtain rfl := hw.symm))
  refine (HL.out _ ((Below.refl _ _).alloc (Nat.le_refl _) _)).mono ?_
  rintro e w1 ⟨rfl, hb1⟩
  have hk := below_new hb1 (by simp)
  obtain ⟨e0, e1, e2, e3, ez⟩ := blk4 hk
  have HB1 : Hid (Below w.heap.size w w1) := ((Below.refl _ _).alloc (Nat.le_refl _) _).trans (hb1.mono (by simp))
  clear hb1 hk
  by_cases h0 : wsum sk.lv = 0
  · rw [h0]
    go_wp2_with fail
    go_ret3
    exact ⟨by simp, HB1.out⟩
  · have h0' : ((wsum sk.lv : Int) == 0) = false := by simpa using h0
    go_wp2_with fail
    go_quiet (fail)
    go_wp2_with fail
    go_ret3
    exact ⟨by simp, below_drewN HB1.out _⟩

set_option maxHeartbeats 400000 in
set_option maxRecDepth 100000 in
theorem deskLedger (d : Nat) (D : Dk) (i : Nat) (w : World) (h : DeskAt F w d D) (hi : i < D.sks.length) (hok : (D.sks.getD i Hd.none).Ok) (hss : ssum (D.sks.getD i Hd.none).sk.lv ≤ 1152921504606846976) :
    Calls Tryz.prog 44 #[.pointer (some ⟨d, 0, none⟩), .int .i64 (i : Int)] w fun e w' => ∃ gt ct, e = .returned (.tuple #[.agg #[.slice (some ⟨gt, 0, none⟩) (D.sks.getD i Hd.none).sk.lv.length ct, .int .i64 (esum (D.sks.getD i Hd.none).sk.lv : Int), .int .i64 (ssum (D.sks.getD i Hd.none).sk.lv : Int)], .int .i64 0]) ∧ w.heap.size ≤ gt ∧ w'.ownsRow 0 3 1 (.slice (some ⟨gt, 0, none⟩) (D.sks.getD i Hd.none).sk.lv.length ct) (D.sks.getD i Hd.none).sk.lv.length (ints (timesOf (D.sks.getD i Hd.none).sk.lv)) ∧ Below w.heap.size w w' := by
  obtain ⟨vt, vk, rs, h⟩ := h
  have hdz := lt_of_blk' h.blk
  have hA := h.below ((Below.refl w.heap.size w).alloc (Nat.le_refl _) (.cells #[.slice none 0 0, .int .i64 0, .int .i64 0] 97))
  obtain ⟨g, c, rfl, hg, q0, q1, q2, q3, q4⟩ := hA.cells5 hi
  obtain ⟨_, _, c2, _⟩ := blk3 hA.blk
  have HH := hid (has_any d (i : Int) _ _ _ _ c2)
  rw [hasB_nat hi] at HH
  have HL := hid (ledger_any (D.sks.getD i Hd.none).sk.k _ _ (D.sks.getD i Hd.none).sk.lo (D.sks.getD i Hd.none).sk.hi _ _ _ (hA.lv i hi) (by have := hok.len; omega) hss)
  generalize (D.sks.getD i Hd.none).sk = sk at *
  generalize rs.getD i Ref.none = r at *
  generalize (D.sks.getD i Hd.none).sealed = sl at *
  have hwz : w.heap.size < (w.alloc (.cells #[.slice none 0 0, .int .i64 0, .int .i64 0] 97)).heap.size := by simp
  generalize D.sks.length = n at *
  have hblk := heap_alloc_new w (.cells #[.slice none 0 0, .int .i64 0, .int .i64 0] 97 (0, 0))
  have HBL := hid hblk
  clear hA h hok hblk
  go_enter Tryz.func44, Tryz.ntmps44
  go_wp2_with (first | (go_at_call 59; refine HH.out.mono ?_; rintro e w' ⟨rfl, rfl⟩) | (go_at_call 72; refine HL.out.mono ?_; rintro e w1 ⟨gt, ct, rfl, hgt, hown1, hb1⟩; have hk := (hb1.block _ hwz).trans HBL.out; obtain ⟨e0, e1, e2, ez⟩ := blk3 hk; have HB1 := hid hb1; have HO1 := hid hown1; have HK := hid hk; simp at hgt; clear hb1 hk hown1))
  refine bodyPost_ret (v := .tuple #[.agg #[.slice (some ⟨gt, 0, none⟩) sk.lv.length ct, .int .i64 (esum sk.lv : Int), .int .i64 (ssum sk.lv : Int)], .int .i64 0]) (by simp [results, Tryz.results44, go_sem, e0, e1, e2]) rfl ⟨gt, ct, rfl, by omega, ?_, below_set3 (((Below.refl _ _).alloc (Nat.le_refl _) _).trans (HB1.out.mono (by simp))) (Nat.le_refl _) _ _ _⟩
  exact ownsRow_block HO1.out (fun b hb => by simp [Value.ownBlock] at hb; subst hb; exact set3_other _ _ _ (by omega))

set_option maxHeartbeats 400000 in
theorem new_any (room : Nat) (w : World) (h1 : 1 ≤ room) (h2 : room ≤ 8) :
    Calls Tryz.prog 9 #[.int .i64 (room : Int)] w fun e w' => e = .returned (.tuple #[.pointer (some ⟨w.heap.size, 0, none⟩), .int .i64 0]) ∧ DeskAt (fun b => b = w.heap.size) w' w.heap.size ⟨room, [], []⟩ ∧ Below w.heap.size w w' := by
  go_enter Tryz.func9, Tryz.ntmps9
  go_wp2
  go_ret2
  refine ⟨rfl, ⟨.slice none 0 0, .slice none 0 0, [], heap_alloc_new _ _, rfl, World.ownsRow_nil _ _ _ _, fun b h => by simp [Value.ownBlock] at h, World.ownsRow_nil _ _ _ _, fun b h => by simp [Value.ownBlock] at h, rfl, fun i hi => by simp at hi, fun i hi => by simp at hi, fun b h => by subst h; simp, fun i hi => by simp at hi, fun i hi => by simp at hi, fun i j b hi => by simp at hi⟩, (Below.refl _ _).alloc (Nat.le_refl _) _⟩

end Go.Proofs.YtklicjbpjigfdabGreat

/- DERIVED. What a call does to the desk in memory: lemmas outside the walks. -/
namespace Go.Proofs.YtklicjbpjigfdabGreat
open Go.RowKit
variable {F : Nat → Prop}

/-- The desk is now D', in blocks of its own or new ones; nothing but its own blocks has turned. -/
def DeskStep (F : Nat → Prop) (w w' : World) (d : Nat) (D' : Dk) : Prop := ∃ F', DeskAt F' w' d D' ∧ (∀ b, F' b → F b ∨ w.heap.size ≤ b) ∧ Fr F w w'

theorem DeskStep.of_below {w w' : World} {d : Nat} {D : Dk} (h : DeskAt F w d D) (hb : Below w.heap.size w w') : DeskStep F w w' d D := ⟨F, h.below hb, fun _ h => .inl h, Fr.below hb⟩
theorem DeskStep.trans {w w1 w2 : World} {d : Nat} {D1 D2 : Dk} (h : DeskStep F w w1 d D1) (k : ∀ F', DeskAt F' w1 d D1 → DeskStep F' w1 w2 d D2) : DeskStep F w w2 d D2 := by
  obtain ⟨F1, h1, h2, h3⟩ := h
  obtain ⟨F2, k1, k2, k3⟩ := k F1 h1
  refine ⟨F2, k1, fun b hb => ?_, h3.trans k3 (fun x hx hF => ?_)⟩
  · rcases k2 b hb with h | h
    · exact h2 b h
    · exact .inr (Nat.le_trans h3.size h)
  · rcases h2 x hF with h | h
    · exact h
    · omega

theorem fr_undrew {S : Nat → Prop} {w w' : World} (h : Fr S w.drew w') : Fr S w w' := ⟨h.os, h.tape, h.output, h.size, h.block⟩
theorem Fr.alloc {S : Nat → Prop} {w w' : World} (h : Fr S w w') (o : Obj) : Fr S w (w'.alloc o) :=
  ⟨h.os, h.tape, h.output, by have := h.size; simp; omega, fun b hb hn => (Below.heap_alloc _ _ _ (Nat.lt_of_lt_of_le hb h.size)).trans (h.block b hb hn)⟩
theorem settle_used {k : Nat} : ∀ {cs : List Bool} {u : Nat} {L L' : List Lvl} {u' : Nat}, settle k cs u L = some (L', u') → u' ≤ u + cs.length := by
  intro cs
  induction cs with
  | nil => intro u L L' u' h; simp only [settle] at h; split at h <;> simp at h; omega
  | cons c cs ih =>
    intro u L L' u' h
    simp only [settle] at h
    split at h
    · simp at h; simp; omega
    · have := ih h; simp; omega
theorem undrewN {B n : Nat} {w w' : World} (h : Below B (w.drewN n) w') : Below B w w' := ⟨h.os, h.tape, h.output, h.size, h.block⟩
/-- The footprint behind a call. -/
def foot (F : Nat → Prop) (w w' : World) : Nat → Prop := fun b => (F b ∨ w.heap.size ≤ b) ∧ b < w'.heap.size

/-- The tape has turned. -/
theorem DeskIn.retape {w w' : World} {d : Nat} {D : Dk} {vt vk vt' : Value} {rs : List Ref} {t' : List Bool} (h : DeskIn F w d D vt vk rs) (hd : w'.heap[d]? = some (.cells #[.int .i64 (D.room : Int), vt', vk] 55 (0, 0))) (ht : Bools w' vt' t') (hv : ∀ b, vt'.ownBlock = some b → vt.ownBlock = some b ∨ w.heap.size ≤ b)
    (hf : Fr (fun b => b = d ∨ vt.ownBlock = some b) w w') : DeskIn (foot F w w') w' d { D with tape := t' } vt' vk rs := by
  have hkeep : ∀ (b : Nat) (c : Array Value) (t : TypeId) (fr : Nat × Nat), w.heap[b]? = some (.cells c t fr) → t ≠ 55 → t ≠ 4 → w'.heap[b]? = w.heap[b]? := by
    intro b c t fr hb h1 h2
    refine hf.block b (lt_of_blk' hb) (fun e => ?_)
    rcases e with rfl | e
    · rw [h.blk] at hb; cases hb; exact h1 rfl
    · obtain ⟨c', hc'⟩ := h.tp.kind e
      rw [hc'] at hb; cases hb; exact h2 rfl
  have hF : ∀ b, F b → foot F w w' b := fun b hb => ⟨.inl hb, Nat.lt_of_lt_of_le (h.flt b hb) hf.size⟩
  refine ⟨hd, hF d h.fd, ht, fun b e => ⟨?_, ownsRow_lt ht e⟩, ?_, fun b e => hF b (h.frow b e), h.len, fun i hi => ?_, fun i hi => hF _ (h.flv i hi), fun b e => e.2, fun i hi => ?_, fun i hi b e => hF _ (h.ftk i hi b e), h.dtk⟩
  · rcases hv b e with e | e
    · exact .inl (h.ftp b e)
    · exact .inr e
  · refine ownsRow_block h.row (fun b e => ?_)
    rcases h.row.2 with ⟨e', _⟩ | ⟨g, cap, cur, e', _, hh, _⟩
    · rw [e'] at e; simp [Value.ownBlock] at e
    · rw [e'] at e; simp [Value.ownBlock] at e; subst e
      exact hkeep _ _ _ _ hh (by decide) (by decide)
  · refine LvAt.mono (LvAt.block (h.lv i hi) (fun b e => ?_)) (fun b hb _ => hF b hb)
    rcases e with e | ⟨c, hc⟩
    · obtain ⟨c, hc⟩ := (h.lv i hi).blk
      subst e
      exact hkeep _ _ _ _ hc (by decide) (by decide)
    · exact hkeep _ _ _ _ hc (by decide) (by decide)
  · refine ownsRow_block (h.tk i hi) (fun b e => ?_)
    obtain ⟨c, hc⟩ := ownsRow_blk (h.tk i hi) e
    exact hkeep _ _ _ _ hc (by decide) (by decide)

theorem DeskStep.retape {w w' : World} {d : Nat} {D : Dk} {vt vk vt' : Value} {rs : List Ref} {t' : List Bool} (h : DeskIn F w d D vt vk rs) (hd : w'.heap[d]? = some (.cells #[.int .i64 (D.room : Int), vt', vk] 55 (0, 0))) (ht : Bools w' vt' t') (hv : ∀ b, vt'.ownBlock = some b → vt.ownBlock = some b ∨ w.heap.size ≤ b)
    (hf : Fr (fun b => b = d ∨ vt.ownBlock = some b) w w') : DeskStep F w w' d { D with tape := t' } :=
  ⟨foot F w w', ⟨vt', vk, rs, h.retape hd ht hv hf⟩, fun b e => e.1, hf.mono (fun x _ e => by
    rcases e with rfl | e
    · exact h.fd
    · exact h.ftp x e)⟩

/-- A sketch has turned: its four cells are stored. -/
theorem DeskIn.setSk {F G : Nat → Prop} {w : World} {d gk c i : Nat} {D : Dk} {vt : Value} {rs : List Ref} {r : Ref} {sk : Sk} (hrt : r.tk = (rs.getD i Ref.none).tk) (h : DeskIn F w d D vt (.slice (some ⟨gk, 0, none⟩) D.sks.length c) rs) (hi : i < D.sks.length) (hFG : ∀ b, F b → G b) (hG : ∀ b, G b → b < w.heap.size) (hL : LvAt G w r.g r.cap r.vs sk.lv) (hg : G r.g) :
    DeskIn G ((((w.setCell ⟨gk, i * 6, none⟩ (.int .i64 (sk.k : Int))).setCell ⟨gk, i * 6 + 1, none⟩ (.slice (some ⟨r.g, 0, none⟩) sk.lv.length r.cap)).setCell ⟨gk, i * 6 + 2, none⟩ (.int .i64 sk.lo)).setCell ⟨gk, i * 6 + 3, none⟩ (.int .i64 sk.hi)) d
      { D with sks := D.sks.set i { sk := sk, sealed := (D.sks.getD i Hd.none).sealed, taken := (D.sks.getD i Hd.none).taken } } vt (.slice (some ⟨gk, 0, none⟩) D.sks.length c) (rs.set i r) := by
  obtain ⟨ck, hck⟩ : ∃ cc, w.heap[gk]? = some (.cells cc 121 (0, 0)) := by
    rcases h.row.2 with ⟨e, _⟩ | ⟨g', cap', cur, e, _, hh, _⟩
    · cases e
    · cases e; exact ⟨cur, hh⟩
  have hother : ∀ b, b ≠ gk → ((((w.setCell ⟨gk, i * 6, none⟩ (.int .i64 (sk.k : Int))).setCell ⟨gk, i * 6 + 1, none⟩ (.slice (some ⟨r.g, 0, none⟩) sk.lv.length r.cap)).setCell ⟨gk, i * 6 + 2, none⟩ (.int .i64 sk.lo)).setCell ⟨gk, i * 6 + 3, none⟩ (.int .i64 sk.hi)).heap[b]? = w.heap[b]? := fun b hb => by
    rw [Below.heap_setCell _ _ _ _ hb, Below.heap_setCell _ _ _ _ hb, Below.heap_setCell _ _ _ _ hb, Below.heap_setCell _ _ _ _ hb]
  have hkind : ∀ (b : Nat) (cc : Array Value) (t : TypeId) (fr : Nat × Nat), w.heap[b]? = some (.cells cc t fr) → t ≠ 121 → b ≠ gk := by
    intro b cc t fr hb ht e
    subst e
    rw [hck] at hb; cases hb; exact ht rfl
  have hlvk : ∀ {g cap : Nat} {vs : List Value} {L : List Lvl}, LvAt G w g cap vs L → LvAt G ((((w.setCell ⟨gk, i * 6, none⟩ (.int .i64 (sk.k : Int))).setCell ⟨gk, i * 6 + 1, none⟩ (.slice (some ⟨r.g, 0, none⟩) sk.lv.length r.cap)).setCell ⟨gk, i * 6 + 2, none⟩ (.int .i64 sk.lo)).setCell ⟨gk, i * 6 + 3, none⟩ (.int .i64 sk.hi)) g cap vs L := by
    intro g cap vs L hl
    refine hl.block (fun b e => hother b ?_)
    rcases e with rfl | ⟨cc, hc⟩
    · obtain ⟨cc, hc⟩ := hl.blk; exact hkind _ _ _ _ hc (by decide)
    · exact hkind _ _ _ _ hc (by decide)
  have hrow := (((h.row.stored (i * 6) (.int .i64 (sk.k : Int))).1.stored (i * 6 + 1) (.slice (some ⟨r.g, 0, none⟩) sk.lv.length r.cap)).1.stored (i * 6 + 2) (.int .i64 sk.lo)).1.stored (i * 6 + 3) (.int .i64 sk.hi)
  have hcs := hdCells_set rs D.sks i r { sk := sk, sealed := (D.sks.getD i Hd.none).sealed, taken := (D.sks.getD i Hd.none).taken } h.len hi rfl hrt
  have htk : ∀ j, ((rs.set i r).getD j Ref.none).tk = (rs.getD j Ref.none).tk := by
    intro j
    by_cases e : j = i
    · subst e
      have hl := h.len
      have e1 : (rs.set j r).getD j Ref.none = r := by simp [List.getD, hl, hi]
      rw [e1, hrt]
    · simp [List.getD, Ne.symm e]
  refine ⟨(hother d (hkind _ _ _ _ h.blk (by decide))).trans h.blk, hFG _ h.fd, ownsRow_block h.tp (fun b e => ?_), fun b e => hFG _ (h.ftp b e), ?_, fun b e => hFG _ (h.frow b e), by simp [h.len], fun j hj => ?_, fun j hj => ?_, fun b e => by simp only [setCell_size]; exact hG b e, fun j hj => ?_, fun j hj b e => ?_, fun a j b ha hj e1 e2 => ?_⟩
  · obtain ⟨cc, hc⟩ := h.tp.kind e
    exact hother b (hkind _ _ _ _ hc (by decide))
  · simp only [List.length_set]
    rw [hcs]
    exact hrow.1
  · simp only [List.length_set] at hj
    have hl := h.len
    by_cases e : j = i
    · subst e
      have e1 : (rs.set j r).getD j Ref.none = r := by simp [List.getD, hl, hj]
      have e2 : (D.sks.set j { sk := sk, sealed := (D.sks.getD j Hd.none).sealed, taken := (D.sks.getD j Hd.none).taken }).getD j Hd.none = { sk := sk, sealed := (D.sks.getD j Hd.none).sealed, taken := (D.sks.getD j Hd.none).taken } := by simp [List.getD, hj]
      rw [e1, e2]
      exact hlvk hL
    · have e1 : (rs.set i r).getD j Ref.none = rs.getD j Ref.none := by simp [List.getD, Ne.symm e]
      have e2 : (D.sks.set i { sk := sk, sealed := (D.sks.getD i Hd.none).sealed, taken := (D.sks.getD i Hd.none).taken }).getD j Hd.none = D.sks.getD j Hd.none := by simp [List.getD, Ne.symm e]
      rw [e1, e2]
      exact hlvk ((h.lv j hj).mono (fun b hb _ => hFG b hb))
  · simp only [List.length_set] at hj
    have hl := h.len
    by_cases e : j = i
    · subst e
      have e1 : (rs.set j r).getD j Ref.none = r := by simp [List.getD, hl, hj]
      rw [e1]; exact hg
    · have e1 : (rs.set i r).getD j Ref.none = rs.getD j Ref.none := by simp [List.getD, Ne.symm e]
      rw [e1]; exact hFG _ (h.flv j hj)
  · simp only [List.length_set] at hj
    rw [htk j]
    have e2 : ((D.sks.set i { sk := sk, sealed := (D.sks.getD i Hd.none).sealed, taken := (D.sks.getD i Hd.none).taken }).getD j Hd.none).taken = (D.sks.getD j Hd.none).taken := by
      by_cases e : j = i
      · subst e; simp [List.getD, hj]
      · simp [List.getD, Ne.symm e]
    rw [e2]
    refine ownsRow_block (h.tk j hj) (fun b e => hother b ?_)
    obtain ⟨cc, hc⟩ := ownsRow_blk (h.tk j hj) e
    exact hkind _ _ _ _ hc (by decide)
  · simp only [List.length_set] at hj
    rw [htk j] at e
    exact hFG _ (h.ftk j hj b e)
  · simp only [List.length_set] at ha hj
    rw [htk a] at e1
    rw [htk j] at e2
    exact h.dtk a j b ha hj e1 e2

set_option maxHeartbeats 400000 in
theorem deskFeed (d : Nat) (D : Dk) (s : ByteArray) (w : World) (h : DeskAt F w d D) (hc : areCoins s.data.toList = true) (hn : D.tape.length + s.size ≤ 1024) :
    Calls Tryz.prog 22 #[.pointer (some ⟨d, 0, none⟩), .string s] w fun e w' => e = .returned (.int .i64 0) ∧ DeskStep F w w' d { D with tape := D.tape ++ coinsOf s.data.toList } := by
  obtain ⟨vt, vk, rs, h⟩ := h
  have hL := hid (lay_any d _ _ _ D.tape s w h.blk h.tp (by omega) (by omega))
  obtain ⟨ao, c, rfl⟩ := h.vtForm
  obtain ⟨_, c1, _, _⟩ := blk3 h.blk
  have hA := hid (areCoins_any s w (by unfold maxLen; omega))
  rw [hc] at hA
  have HT := hid (tapeLeft_any d _ _ _ w c1)
  have HD := hid h
  generalize htl : D.tape.length = tl at *
  clear h
  go_enter Tryz.func22, Tryz.ntmps22
  go_wp2_with (first | (go_at_call 56; refine hA.out.mono ?_; rintro e w' ⟨rfl, hw⟩; obtain rfl := hw.symm) | (go_at_call 57; refine HT.out.mono ?_; rintro e w' ⟨rfl, hw⟩; obtain rfl := hw.symm) | (go_at_call 58; refine hL.out.mono ?_; rintro e w' ⟨rfl, vt', h1, h2, h3, h4⟩; have H1 := hid h1; have H2 := hid h2; have H3 := hid h3; have H4 := hid h4; clear h1 h2 h3 h4))
  go_ret
  exact ⟨rfl, DeskStep.retape HD.out H1.out H2.out H3.out H4.out⟩

end Go.Proofs.YtklicjbpjigfdabGreat

/- DERIVED. The walks of the desk's begin and Open. -/
namespace Go.Proofs.YtklicjbpjigfdabGreat
open Go.RowKit
attribute [local go_sem ↓] Go.wp_at_zero Go.wp_at_succ
variable {F : Nat → Prop}

/-- A sketch that was just begun. -/
def Hd.begun (k : Nat) : Hd := { sk := { k := k, lv := [Lvl.none], lo := 0, hi := 0 }, sealed := false, taken := [] }

theorem five_new {w : World} {H : Nat} (hH : w.heap.size = H) (a b c d u' v' : Value) (e : TypeId) : ∀ j u, [a, b, c, d, u', v'][j]? = some u → (w.alloc (.cells #[a, b, c, d, u', v'] e)).cell? ((⟨H, 0, none⟩ : Addr).add j) = some u := by
  subst hH
  intro j u hu
  match j, hu with
  | 0, hu => simp at hu; subst hu; simp [Addr.add]
  | 1, hu => simp at hu; subst hu; simp [Addr.add]
  | 2, hu => simp at hu; subst hu; simp [Addr.add]
  | 3, hu => simp at hu; subst hu; simp [Addr.add]
  | 4, hu => simp at hu; subst hu; simp [Addr.add]
  | 5, hu => simp at hu; subst hu; simp [Addr.add]

/-- One sketch more: the row has grown, and the desk holds the new row. -/
theorem push_st {w w1 wx w2 : World} {d g2 cap2 n : Nat} {D : Dk} {vt vk : Value} {rs : List Ref} {r : Ref} {x : Hd} (hrt : r.tk = .slice none 0 0) (hxt : x.taken = []) (hD : DeskIn F w1 d D vt vk rs) (hn : D.sks.length = n) (hbw : Below w.heap.size w w1) (hL : LvAt (fun b => F b ∨ w.heap.size ≤ b) w1 r.g r.cap r.vs x.sk.lv) (hg1 : w.heap.size ≤ r.g) (hx : Below w1.heap.size w1 wx)
    (hown : w2.ownsRow 0 121 6 (.slice (some ⟨g2, 0, none⟩) (n + 1) cap2) (n + 1) (hdCells rs D.sks ++ hdCell r x))
    (hgrow : wx.grownBy w2 vk.ownBlock) (hat : vk.ownBlock = some g2 ∨ w1.heap.size ≤ g2) (hq : w2.heap[d]? = some (.cells #[.int .i64 (D.room : Int), vt, vk] 55 (0, 0))) :
    DeskStep F w (w2.setCell ⟨d, 2, none⟩ (.slice (some ⟨g2, 0, none⟩) (n + 1) cap2)) d { D with sks := D.sks ++ [x] } := by
  have hkw : ∀ (b : Nat) (cc : Array Value) (t : TypeId) (fr : Nat × Nat), w1.heap[b]? = some (.cells cc t fr) → t ≠ 121 → w2.heap[b]? = w1.heap[b]? := by
    intro b cc t fr hb ht
    have hz := lt_of_blk' hb
    rw [hgrow.block b (Nat.lt_of_lt_of_le hz hx.size) (fun e => ?_), hx.block b hz]
    rcases hD.row.2 with ⟨e', _⟩ | ⟨g', cap', cur, e', _, hh, _⟩
    · rw [e'] at e; simp [Value.ownBlock] at e
    · rw [e'] at e; simp [Value.ownBlock] at e; subst e
      rw [hh] at hb; cases hb; exact ht rfl
  have hkw2 : ∀ (b : Nat) (cc : Array Value) (t : TypeId) (fr : Nat × Nat), w1.heap[b]? = some (.cells cc t fr) → t ≠ 121 → t ≠ 55 → (w2.setCell ⟨d, 2, none⟩ (.slice (some ⟨g2, 0, none⟩) (n + 1) cap2)).heap[b]? = w1.heap[b]? := by
    intro b cc t fr hb ht ht2
    rw [Below.heap_setCell _ _ _ _ (fun e => ?_), hkw b cc t fr hb ht]
    subst e
    rw [hD.blk] at hb; cases hb; exact ht2 rfl
  have hz2 : w1.heap.size ≤ w2.heap.size := Nat.le_trans hx.size hgrow.size
  have hlvk : ∀ {g cap : Nat} {vs : List Value} {L : List Lvl}, LvAt (fun b => F b ∨ w.heap.size ≤ b) w1 g cap vs L → LvAt (fun b => (F b ∨ w.heap.size ≤ b) ∧ b < w2.heap.size) (w2.setCell ⟨d, 2, none⟩ (.slice (some ⟨g2, 0, none⟩) (n + 1) cap2)) g cap vs L := by
    intro g cap vs L hl
    refine LvAt.mono (hl.block (fun b e => ?_)) (fun b hb hl => ⟨hb, by rw [setCell_size] at hl; exact hl⟩)
    rcases e with rfl | ⟨cc, hc⟩
    · obtain ⟨cc, hc⟩ := hl.blk; exact hkw2 _ _ _ _ hc (by decide) (by decide)
    · exact hkw2 _ _ _ _ hc (by decide) (by decide)
  have hG : ∀ b, F b → (F b ∨ w.heap.size ≤ b) ∧ b < w2.heap.size := fun b hb => ⟨.inl hb, Nat.lt_of_lt_of_le (hD.flt b hb) hz2⟩
  have hne2 : g2 ≠ d := by
    intro e; subst e
    rcases hown.2 with ⟨e', _⟩ | ⟨g', cap', cur, e', _, hh, _⟩
    · cases e'
    · cases e'; rw [hq] at hh; cases hh
  refine ⟨fun b => (F b ∨ w.heap.size ≤ b) ∧ b < w2.heap.size, ⟨vt, .slice (some ⟨g2, 0, none⟩) (n + 1) cap2, rs ++ [r], ?_⟩, fun b hb => hb.1, ?_⟩
  · refine ⟨?_, hG d hD.fd, ?_, fun b e => hG _ (hD.ftp b e), ?_, ?_, by simp [hD.len], fun i hi => ?_, fun i hi => ?_, fun b hb => by rw [setCell_size]; exact hb.2, fun i hi => ?_, fun i hi b e => ?_, fun i j b hi hj e1 e2 => ?_⟩
    · have := blk_set (i := 2) (.slice (some ⟨g2, 0, none⟩) (n + 1) cap2) hq
      simpa using this
    · refine ownsRow_block hD.tp (fun b e => ?_)
      obtain ⟨cc, hc⟩ := hD.tp.kind e
      exact hkw2 _ _ _ _ hc (by decide) (by decide)
    · have e : ({ D with sks := D.sks ++ [x] } : Dk).sks.length = n + 1 := by simp [hn]
      rw [e]
      show World.ownsRow _ _ _ _ _ _ (hdCells (rs ++ [r]) (D.sks ++ [x]))
      rw [hdCells_push _ _ _ _ hD.len]
      exact ownsRow_block hown (fun b e => by simp [Value.ownBlock] at e; subst e; exact Below.heap_setCell _ _ _ _ hne2)
    · intro b e
      simp [Value.ownBlock] at e
      subst e
      refine ⟨?_, ownsRow_lt hown rfl⟩
      rcases hat with e | e
      · exact .inl (hD.frow _ e)
      · exact .inr (Nat.le_trans hbw.size e)
    · simp only [List.length_append, List.length_singleton] at hi
      by_cases hil : i < D.sks.length
      · have e1 : (rs ++ [(r : Ref)]).getD i Ref.none = rs.getD i Ref.none := by simp [List.getD, List.getElem?_append, hD.len, hil]
        have e2 : (D.sks ++ [x]).getD i Hd.none = D.sks.getD i Hd.none := by simp [List.getD, List.getElem?_append, hil]
        rw [e1, e2]
        exact hlvk ((hD.lv i hil).mono (fun b hb _ => .inl hb))
      · have e : i = D.sks.length := by omega
        subst e
        have e1 : (rs ++ [(r : Ref)]).getD D.sks.length Ref.none = r := by simp [List.getD, ← hD.len]
        have e2 : (D.sks ++ [x]).getD D.sks.length Hd.none = x := by simp [List.getD]
        rw [e1, e2]
        exact hlvk hL
    · simp only [List.length_append, List.length_singleton] at hi
      by_cases hil : i < D.sks.length
      · have e1 : (rs ++ [(r : Ref)]).getD i Ref.none = rs.getD i Ref.none := by simp [List.getD, List.getElem?_append, hD.len, hil]
        rw [e1]
        exact hG _ (hD.flv i hil)
      · have e : i = D.sks.length := by omega
        subst e
        have e1 : (rs ++ [(r : Ref)]).getD D.sks.length Ref.none = r := by simp [List.getD, ← hD.len]
        rw [e1]
        exact ⟨.inr hg1, Nat.lt_of_lt_of_le hL.lt hz2⟩
    · simp only [List.length_append, List.length_singleton] at hi
      by_cases hil : i < D.sks.length
      · have e1 : (rs ++ [(r : Ref)]).getD i Ref.none = rs.getD i Ref.none := by simp [List.getD, List.getElem?_append, hD.len, hil]
        have e2 : (D.sks ++ [x]).getD i Hd.none = D.sks.getD i Hd.none := by simp [List.getD, List.getElem?_append, hil]
        rw [e1, e2]
        refine ownsRow_block (hD.tk i hil) (fun b e => ?_)
        obtain ⟨cc, hc⟩ := ownsRow_blk (hD.tk i hil) e
        exact hkw2 _ _ _ _ hc (by decide) (by decide)
      · have e : i = D.sks.length := by omega
        subst e
        have e1 : (rs ++ [(r : Ref)]).getD D.sks.length Ref.none = r := by simp [List.getD, ← hD.len]
        have e2 : (D.sks ++ [x]).getD D.sks.length Hd.none = x := by simp [List.getD]
        rw [e1, e2, hrt, hxt]
        exact World.ownsRow_nil _ _ _ _
    · simp only [List.length_append, List.length_singleton] at hi
      by_cases hil : i < D.sks.length
      · have e1 : (rs ++ [(r : Ref)]).getD i Ref.none = rs.getD i Ref.none := by simp [List.getD, List.getElem?_append, hD.len, hil]
        rw [e1] at e
        exact hG _ (hD.ftk i hil b e)
      · have e9 : i = D.sks.length := by omega
        subst e9
        have e1 : (rs ++ [(r : Ref)]).getD D.sks.length Ref.none = r := by simp [List.getD, ← hD.len]
        rw [e1, hrt] at e
        simp [Value.ownBlock] at e
    · simp only [List.length_append, List.length_singleton] at hi hj
      have hnew : ∀ k, ¬ k < D.sks.length → ∀ b, ((rs ++ [(r : Ref)]).getD k Ref.none).tk.ownBlock ≠ some b := by
        intro k hk b e
        by_cases e9 : k = D.sks.length
        · subst e9
          have e1 : (rs ++ [(r : Ref)]).getD D.sks.length Ref.none = r := by simp [List.getD, ← hD.len]
          rw [e1, hrt] at e
          simp [Value.ownBlock] at e
        · have e1 : (rs ++ [(r : Ref)]).getD k Ref.none = Ref.none := by
            rw [List.getD, List.getElem?_eq_none (by simp [hD.len]; omega)]
            rfl
          rw [e1] at e
          simp [Value.ownBlock, Ref.none] at e
      have hold : ∀ k, k < D.sks.length → (rs ++ [(r : Ref)]).getD k Ref.none = rs.getD k Ref.none := fun k hk => by simp [List.getD, List.getElem?_append, hD.len, hk]
      by_cases hil : i < D.sks.length
      · by_cases hjl : j < D.sks.length
        · rw [hold i hil] at e1
          rw [hold j hjl] at e2
          exact hD.dtk i j b hil hjl e1 e2
        · exact absurd e2 (hnew j hjl b)
      · exact absurd e1 (hnew i hil b)
  · refine Fr.set ⟨hgrow.os.trans (hx.os.trans hbw.os), hgrow.tape.trans (hx.tape.trans hbw.tape), hgrow.output.trans (hx.output.trans hbw.output), Nat.le_trans hbw.size hz2, fun b hb hn => ?_⟩ (fun _ => hD.fd) _
    rw [hgrow.block b (by have := hbw.size; have := hx.size; omega) (fun e => hn (hD.frow b e.symm)), hx.block b (by have := hbw.size; omega), hbw.block b hb]

theorem five_cell (k l h c : Value) (hk : k.oneCell' = true) (hl : l.oneCell' = true) (hh : h.oneCell' = true) (hc : c.oneCell' = true) (b : Bool) : ∀ u ∈ [k, l, h, c, .bool b, .slice none 0 0], u.oneCell' = true := by
  intro u hu
  simp at hu
  rcases hu with rfl | rfl | rfl | rfl | rfl | rfl <;> first | assumption | rfl

set_option maxHeartbeats 1000000 in
set_option maxRecDepth 100000 in
theorem dbegin_any (d g cap : Nat) (s : Sk) (vs : List Value) (D : Dk) (w0 w : World) (h : DeskAt F w0 d D) (hbw : Below w0.heap.size w0 w) (hL : LvAt (fun b => F b ∨ w0.heap.size ≤ b) w g cap vs s.lv) (hg : w0.heap.size ≤ g) (hr : D.sks.length < D.room) (hr2 : D.room ≤ 8) :
    Calls Tryz.prog 27 #[.pointer (some ⟨d, 0, none⟩), skVal s.k g s.lv.length cap s.lo s.hi] w fun e w' => e = .returned (.tuple #[.int .i64 (D.sks.length : Int), .int .i64 0]) ∧ DeskStep F w0 w' d { D with sks := D.sks ++ [⟨s, false, []⟩] } := by
  obtain ⟨vt, vk, rs, h⟩ := h.below hbw
  have HD := hid h
  have hdz := lt_of_blk' h.blk
  obtain ⟨ao, c, rfl, _⟩ := h.vkForm
  have hblk := h.blk
  obtain ⟨i0, hi0, hz0, hz1, hz2⟩ := info_parts Tryz.infoHeld
  have HROW := hid h.row
  have HNE : Hid (Value.ownBlock (.slice ao D.sks.length c) ≠ some d) := by
    intro e
    rcases h.row.2 with ⟨e', _⟩ | ⟨g', cap', cur, e', _, hh, _⟩
    · rw [e'] at e; simp [Value.ownBlock] at e
    · rw [e'] at e; simp [Value.ownBlock] at e; subst e
      rw [h.blk] at hh; cases hh
  generalize hn : D.sks.length = n at *
  have HN := hid hn
  generalize hrm : D.room = room at *
  have HRM := hid hrm
  have HBLK := hid hblk
  obtain ⟨c0, c1, c2, cz⟩ := blk3 hblk
  obtain ⟨k, lv, lo, hi⟩ := s
  have HL := hid hL
  have HBW := hid hbw
  simp only at HL ⊢
  generalize hln : lv.length = ln at *
  have HLN := hid hln
  clear h hn hrm hblk hL hbw hln
  go_enter Tryz.func27, Tryz.ntmps27
  go_wp2_with fail
  go_quiet (fail)
  go_wp2_with fail
  have hbA : Below w.heap.size w ((w.alloc (.cells #[.int .i64 (k : Int), .slice (some ⟨g, 0, none⟩) ln cap, .int .i64 lo, .int .i64 hi] 64)).drewN nq) := below_drewN ((Below.refl _ _).alloc (Nat.le_refl _) _) _
  have hzA : ((w.alloc (.cells #[.int .i64 (k : Int), .slice (some ⟨g, 0, none⟩) ln cap, .int .i64 lo, .int .i64 hi] 64)).drewN nq).heap.size = w.heap.size + 1 := by simp
  generalize (w.alloc (.cells #[.int .i64 (k : Int), .slice (some ⟨g, 0, none⟩) ln cap, .int .i64 lo, .int .i64 hi] 64)).drewN nq = wA at *
  have HRA : Hid (wA.ownsRow 0 121 6 (.slice ao n c) n (hdCells rs D.sks)) := ownsRow_below HROW.out hbA (fun g hg => ownsRow_lt HROW.out hg)
  have HBA := hid hbA
  have hblkA : wA.heap[d]? = some (.cells #[.int .i64 (room : Int), vt, .slice ao n c] 55 (0, 0)) := (hbA.block d hdz).trans HBLK.out
  have hdzA : d < wA.heap.size := lt_of_blk' hblkA
  have HBLKA := hid hblkA
  obtain ⟨d0, d1, d2, dz⟩ := blk3 hblkA
  have HZA := hid hzA
  rw [show w.heap.size + 1 = wA.heap.size from hzA.symm]
  clear c0 c1 c2 cz hbA hblkA hzA
  go_region_law ((refine step_append_lies _ (by rfl) (.tmp 23) (.tmp 25) 53 (by rfl) 0 121 i0 (.agg #[.int .i64 0, .slice none 0 0, .int .i64 0, .int .i64 0, .bool false, .slice none 0 0]) 6 80 Tryz.underlying53 hi0 hz0 hz1 hz2 rfl (by decide) (.slice ao n c) n (hdCells rs D.sks) (by rfl) ((HRA.out.alloc _).alloc _) ⟨wA.heap.size + 1, 0, none⟩ 1 1 [.int .i64 (k : Int), .slice (some ⟨g, 0, none⟩) ln cap, .int .i64 lo, .int .i64 hi, .bool false, .slice none 0 0] (by rfl) rfl (five_new (by simp) _ _ _ _ _ _ _) (five_cell _ _ _ _ rfl rfl rfl rfl _) (by decide) (by unfold maxLen; omega) (by omega) (Nat.zero_le _) (wA.heap.size + 2) (by simp) ?_; intro g2 cap2 w2 hown2 hgrow2 hat2 hlt2; have hq := (hgrow2.block d (by simp; omega) (Ne.symm HNE.out)).trans ((Below.heap_alloc _ _ d (by simp; omega)).trans ((Below.heap_alloc wA _ d hdzA).trans HBLKA.out)); obtain ⟨q0, q1, q2, qz⟩ := blk3 hq))
  all_goals
    have hst := push_st (r := ⟨g, cap, vs, .slice none 0 0⟩) (x := ⟨⟨k, lv, lo, hi⟩, false, []⟩) rfl rfl HD.out HN.out HBW.out HL.out hg ((HBA.out.alloc (by have := HZA.out; omega) _).alloc (by simp; have := HZA.out; omega) _) (by simpa [hdCell, HLN.out] using hown2) ⟨hgrow2.os, hgrow2.tape, hgrow2.output, hgrow2.size, hgrow2.block⟩ (hat2.imp id (fun e => by have := HZA.out; omega)) (by rw [HRM.out]; exact hq)
    rw [HRM.out] at hst
    have HST := hid hst
    clear hst
    go_wp2_with fail
    go_ret2
    refine ⟨?_, HST.out⟩
    simp

set_option maxHeartbeats 400000 in
theorem dbegin_full (d g cap : Nat) (s : Sk) (D : Dk) (w : World) (h : DeskAt F w d D) (hr : D.room ≤ D.sks.length) :
    Calls Tryz.prog 27 #[.pointer (some ⟨d, 0, none⟩), skVal s.k g s.lv.length cap s.lo s.hi] w fun e w' => e = .returned (.tuple #[.int .i64 0, .int .i64 3]) ∧ Below w.heap.size w w' := by
  obtain ⟨vt, vk, rs, h⟩ := h
  have hdz := lt_of_blk' h.blk
  obtain ⟨ao, c, rfl, _⟩ := h.vkForm
  obtain ⟨c0, c1, c2, cz⟩ := blk3 h.blk
  generalize D.sks.length = n at *
  generalize D.room = room at *
  generalize s.lv.length = ln at *
  obtain ⟨k, lv, lo, hi⟩ := s
  simp only
  clear h
  go_enter Tryz.func27, Tryz.ntmps27
  go_wp2_with fail
  go_quiet (fail)
  go_wp2_with fail
  go_ret2
  exact ⟨rfl, below_drewN ((Below.refl _ _).alloc (Nat.le_refl _) _) _⟩

set_option maxHeartbeats 1000000 in
set_option maxRecDepth 100000 in
theorem open_any (d k : Nat) (D : Dk) (w : World) (h : DeskAt F w d D) (hk1 : 2 ≤ k) (hk2 : k ≤ 64) (hr : D.sks.length < D.room) (hr2 : D.room ≤ 8) :
    Calls Tryz.prog 13 #[.pointer (some ⟨d, 0, none⟩), .int .i64 (k : Int)] w fun e w' => e = .returned (.tuple #[.int .i64 (D.sks.length : Int), .int .i64 0]) ∧ DeskStep F w w' d { D with sks := D.sks ++ [Hd.begun k] } := by
  have HB := hid (fun (w' : World) => begin_any (F := fun b => F b ∨ w.heap.size ≤ b) k w')
  have HH := hid h
  clear h
  go_enter Tryz.func13, Tryz.ntmps13
  go_wp2_with fail
  refine (HB.out _).mono ?_
  rintro e w1 ⟨g1, cap1, rfl, hg1, hL1, hb1⟩
  have hal : Below w1.heap.size w1 (w1.alloc (.cells #[.int .i64 (k : Int), .slice (some ⟨g1, 0, none⟩) 1 cap1, .int .i64 0, .int .i64 0] 64)) := (Below.refl _ _).alloc (Nat.le_refl _) _
  have HD := hid (dbegin_any d g1 cap1 ⟨k, [Lvl.none], 0, 0⟩ [.slice none 0 0] D w _ HH.out (hb1.trans (hal.mono hb1.size)) (hL1.below hal) hg1 hr hr2)
  go_wp2_with fail
  refine HD.out.mono ?_
  rintro e w2 ⟨rfl, hst⟩
  have HST := hid hst
  clear hst
  go_wp2_with fail
  go_ret2
  exact ⟨rfl, HST.out⟩

end Go.Proofs.YtklicjbpjigfdabGreat
