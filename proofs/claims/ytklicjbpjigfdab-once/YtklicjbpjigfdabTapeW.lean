/- DERIVED. The walks over the tape: AreCoins, Left, Coins, Lay, Use. -/
import Derived.Test.YtklicjbpjigfdabLv
import Derived.Deep.AppendLies
import Derived.Deep.RegionHeld3
import Derived.Deep.DrawnRows
import Derived.Deep.RegionLaw
namespace Go.Proofs.Ytklicjbpjigfdab
open Go.RowKit
attribute [local go_sem ↓] Go.wp_at_zero Go.wp_at_succ

/-- Is each byte a coin? -/
def areCoins (l : List UInt8) : Bool := l.all fun c => c == 48 || c == 49
/-- The coins of a text. -/
def coinsOf (l : List UInt8) : List Bool := l.map fun c => c == 49

theorem take_snoc (s : ByteArray) (k : Nat) (h : k < s.size) : s.data.toList.take (k + 1) = s.data.toList.take k ++ [s[k]] := by
  rw [List.take_succ_eq_append_getElem (by simpa using h)]; rfl
theorem u8_is (c : UInt8) (n : Nat) (hn : n < 256) : ((c.toNat : Int) = (n : Int)) ↔ c = UInt8.ofNat n := by
  constructor
  · intro h
    have : c.toNat = n := by omega
    apply UInt8.toNat_inj.1
    rw [this]; simp; omega
  · intro h
    subst h
    simp; omega

theorem areCoins_snoc {l : List UInt8} {c : UInt8} (h : areCoins l = true) (hc : (c.toNat : Int) = 48 ∨ (c.toNat : Int) = 49) : areCoins (l ++ [c]) = true := by
  have e : c = 48 ∨ c = 49 := hc.imp (fun h => (u8_is c 48 (by omega)).1 h) (fun h => (u8_is c 49 (by omega)).1 h)
  unfold areCoins at *
  rw [List.all_append, h]
  rcases e with rfl | rfl <;> rfl
theorem areCoins_not {s : ByteArray} {k : Nat} (hk : k < s.size) (h0 : ¬ (s[k].toNat : Int) = 48) (h1 : ¬ (s[k].toNat : Int) = 49) : areCoins s.data.toList = false := by
  unfold areCoins
  rw [List.all_eq_false]
  refine ⟨s[k], ?_, ?_⟩
  · exact Array.getElem_mem_toList (xs := s.data) (by simpa using hk)
  · intro h
    simp only [Bool.or_eq_true, beq_iff_eq] at h
    rcases h with h | h
    · exact h0 (by rw [h]; rfl)
    · exact h1 (by rw [h]; rfl)

set_option maxHeartbeats 400000 in
theorem areCoins_any (s : ByteArray) (w : World) (hs : s.size ≤ maxLen) :
    Calls Try.prog 106 #[.string s] w fun e w' => e = .returned (.bool (areCoins s.data.toList)) ∧ w' = w := by
  unfold maxLen at hs
  go_enter Try.func106, Try.ntmps106
  go_wp2
  go_loop [3] (fun i => ∃ k : Nat, k ≤ s.size ∧ i = .int .i64 k ∧ Hid (areCoins (s.data.toList.take k) = true)) (fun i => s.size - (intOf i).toNat)
  case atStart => exact ⟨0, Nat.zero_le _, rfl, rfl⟩
  case round =>
    obtain ⟨k, hk, rfl, Hc⟩ := hrel
    by_cases hlt : k < s.size
    · have HS := hid (take_snoc s k hlt)
      by_cases h0 : (s[k].toNat : Int) = 48
      · have h0' : ((s[k].toNat : Int) != 48) = false := by simp [h0]
        go_wp2
        go_round
        case rel => exact ⟨k + 1, by omega, by go_num, by rw [HS.out]; exact areCoins_snoc Hc.out (.inl h0)⟩
        case measure => simp [intOf]; omega
      · have h0' : ((s[k].toNat : Int) != 48) = true := by simp [h0]
        by_cases h1 : (s[k].toNat : Int) = 49
        · have h1' : ((s[k].toNat : Int) != 49) = false := by simp [h1]
          go_wp2
          go_round
          case rel => exact ⟨k + 1, by omega, by go_num, by rw [HS.out]; exact areCoins_snoc Hc.out (.inr h1)⟩
          case measure => simp [intOf]; omega
        · have h1' : ((s[k].toNat : Int) != 49) = true := by simp [h1]
          have HF := hid (areCoins_not hlt h0 h1)
          go_wp2
          go_ret
          exact ⟨by rw [HF.out]; rfl, rfl⟩
    · have HT : Hid (areCoins s.data.toList = true) := by have := Hc.out; rw [List.take_of_length_le (by simp; omega)] at this; exact this
      go_wp2
      go_ret
      exact ⟨by rw [HT.out]; rfl, rfl⟩

set_option maxHeartbeats 400000 in
theorem tapeLeft_any (d n cap : Nat) (ao : Option Addr) (w : World) (h : w.cell? ⟨d, 1, none⟩ = some (.slice ao n cap)) :
    Calls Try.prog 87 #[.pointer (some ⟨d, 1, none⟩)] w fun e w' => e = .returned (.int .i64 (n : Int)) ∧ w' = w := by
  go_enter Try.func87, Try.ntmps87
  go_wp2
  go_ret
  exact ⟨rfl, rfl⟩
set_option maxHeartbeats 400000 in
theorem coins_any (d n cap : Nat) (ao : Option Addr) (w : World) (h : w.cell? ⟨d, 1, none⟩ = some (.slice ao n cap)) :
    Calls Try.prog 102 #[.pointer (some ⟨d, 1, none⟩)] w fun e w' => e = .returned (.slice ao n cap) ∧ w' = w := by
  go_enter Try.func102, Try.ntmps102
  go_wp2
  go_ret
  exact ⟨rfl, rfl⟩

theorem Bools.kind {w : World} {v : Value} {xs : List Bool} (h : Bools w v xs) {b : Nat} (hb : v.ownBlock = some b) : ∃ c, w.heap[b]? = some (.cells c 4 (0, 0)) := by
  rcases h.2 with ⟨e, _⟩ | ⟨g2, c2, cur, e, _, hh, _⟩
  · rw [e] at hb; simp [Value.ownBlock] at hb
  · rw [e] at hb; simp [Value.ownBlock] at hb; subst hb; exact ⟨cur, hh⟩
theorem coin_eq (c : UInt8) : (c == 49) = ((c.toNat : Int) == 49) := by
  by_cases h : c = 49
  · subst h; rfl
  · rw [show (c == 49) = false by simpa using h]
    symm
    simp only [beq_eq_false_iff_ne, ne_eq]
    intro e
    exact h ((u8_is c 49 (by omega)).1 e)
/-- From w to w' no block has turned but those of S. -/
structure Fr (S : Nat → Prop) (w w' : World) : Prop where
  os : w'.os = w.os
  tape : w'.tape = w.tape
  output : w'.output = w.output
  size : w.heap.size ≤ w'.heap.size
  block : ∀ b, b < w.heap.size → ¬ S b → w'.heap[b]? = w.heap[b]?
theorem Fr.refl (S : Nat → Prop) (w : World) : Fr S w w := ⟨rfl, rfl, rfl, Nat.le_refl _, fun _ _ _ => rfl⟩
theorem Fr.trans {S T : Nat → Prop} {a b c : World} (h : Fr S a b) (k : Fr T b c) (hT : ∀ x, x < a.heap.size → T x → S x) : Fr S a c :=
  ⟨k.os.trans h.os, k.tape.trans h.tape, k.output.trans h.output, Nat.le_trans h.size k.size, fun x hx hS => (k.block x (Nat.lt_of_lt_of_le hx h.size) (fun hT' => hS (hT x hx hT'))).trans (h.block x hx hS)⟩
theorem Fr.mono {S T : Nat → Prop} {a b : World} (h : Fr S a b) (hT : ∀ x, x < a.heap.size → S x → T x) : Fr T a b := ⟨h.os, h.tape, h.output, h.size, fun x hx hS => h.block x hx (fun e => hS (hT x hx e))⟩
theorem Fr.below {S : Nat → Prop} {w w' : World} (h : Below w.heap.size w w') : Fr S w w' := ⟨h.os, h.tape, h.output, h.size, fun b hb _ => h.block b hb⟩
theorem Fr.toBelow {S : Nat → Prop} {w w' : World} {B : Nat} (h : Fr S w w') (hB : B ≤ w.heap.size) (hS : ∀ b, S b → B ≤ b) : Below B w w' := ⟨h.os, h.tape, h.output, h.size, fun b hb => h.block b (Nat.lt_of_lt_of_le hb hB) (fun e => by have := hS b e; omega)⟩
theorem Fr.set {S : Nat → Prop} {w w' : World} (h : Fr S w w') {a : Addr} (hS : a.block < w.heap.size → S a.block) (v : Value) : Fr S w (w'.setCell a v) :=
  ⟨h.os, h.tape, h.output, by rw [setCell_size]; exact h.size, fun b hb hn => by
    rw [Below.heap_setCell _ _ _ _ (fun e => hn (by subst e; exact hS hb))]; exact h.block b hb hn⟩

theorem drop_step {cs : List Bool} {j n : Nat} (h : j < cs.length) (hn : n ≤ j) : (cs.take (j + 1)).drop n = (cs.take j).drop n ++ [cs.getD j false] := by
  rw [List.take_succ_eq_append_getElem h, List.drop_append_of_le_length (by simp; omega)]; simp [List.getD, h]
theorem drop_none {cs : List Bool} {j n : Nat} (hn : j ≤ n) : (cs.take j).drop n = [] := List.drop_eq_nil_of_le (by simp; omega)
theorem below_fr {w w' : World} {d : Nat} (h : Below w.heap.size w w') {a : Addr} (ha : a.block = d) (v : Value) : Fr (fun b => b = d) w (w'.setCell a v) := (Fr.below h).set (fun _ => ha) v

set_option maxHeartbeats 1000000 in
set_option maxRecDepth 100000 in
theorem use_any (d n : Nat) (r vt vk : Value) (cs : List Bool) (w : World) (hd : w.heap[d]? = some (.cells #[r, vt, vk] 86 (0, 0))) (ht : Bools w vt cs) (hcs : cs.length ≤ 1048576) (hn : n ≤ 1048576) :
    Calls Try.prog 104 #[.pointer (some ⟨d, 1, none⟩), .int .i64 (n : Int)] w fun e w' => e = .returned (.tuple #[]) ∧ ∃ vt', w'.heap[d]? = some (.cells #[r, vt', vk] 86 (0, 0)) ∧ Bools w' vt' (cs.drop n) ∧ (vt' = vt ∨ ∀ b, vt'.ownBlock = some b → w.heap.size ≤ b) ∧ Fr (fun b => b = d) w w' := by
  obtain ⟨ao, ct, rfl, hcl, hcm, hnone, hsome⟩ := ht.form
  obtain ⟨c0, c1, c2, cz⟩ := blk3 hd
  have HD := hid hd
  have HT := hid ht
  have hdz := lt_of_blk' hd
  obtain ⟨i0, hi0, hz0, hz1, hz2⟩ := info_parts Try.infoBool
  generalize hcn : cs.length = cn at *
  have HCN := hid hcn
  have HNO := hid hnone
  have HSO := hid hsome
  clear hcn hd ht hnone hsome
  by_cases h0 : n < 1
  · have : n = 0 := by omega
    subst this
    go_enter Try.func104, Try.ntmps104
    go_wp2
    refine bodyPost_ret (v := .tuple #[]) (by simp [results, Try.results104]) rfl ?_
    exact ⟨rfl, _, HD.out, by rw [List.drop_zero]; exact HT.out, .inl rfl, Fr.refl _ _⟩
  · go_enter Try.func104, Try.ntmps104
    go_wp2
    go_loopw [4, 15] (fun sv si wr => ∃ (j g c : Nat) (xs : List Bool), j ≤ cn ∧ si = .int .i64 j ∧ sv = .slice (some ⟨g, 0, none⟩) xs.length c ∧ Hid (wr.ownsRow w.heap.size 4 1 (.slice (some ⟨g, 0, none⟩) xs.length c) xs.length (xs.map Value.bool)) ∧ Hid (xs = (cs.take j).drop n) ∧ Hid (Below w.heap.size w wr) ∧ xs.length ≤ j) (fun _ si _ => cn - (intOf si).toNat)
    case atStart => exact ⟨0, w.heap.size, 0, [], Nat.zero_le _, rfl, rfl, World.ownsRow_made w #[] 0 (Nat.le_refl _) (Nat.zero_le _) (by simp), by simp [Hid], (Below.refl _ _).alloc (Nat.le_refl _) _, Nat.le_refl _⟩
    case round =>
      obtain ⟨j, g, c, xs, hj, rfl, rfl, Hown, Hxs, Hb, hxl⟩ := hrel
      by_cases hlt : j < cn
      · obtain ⟨gc, rfl⟩ : ∃ g, ao = some ⟨g, 0, none⟩ := by
          cases ao with
          | none => have := (HNO.out rfl).1; rw [this] at HCN; have := HCN.out; simp at this; omega
          | some a => obtain ⟨g, rfl, _⟩ := HSO.out a rfl; exact ⟨g, rfl⟩
        obtain ⟨gc', e1, hgc, hcc⟩ := HSO.out _ rfl
        cases e1
        have hcell : wr.cell? ⟨gc, j, none⟩ = some (.bool (cs.getD j false)) := (Hb.out.cell (by exact hgc)).trans (hcc j hlt)
        have hwz := Hb.out.size
        clear hcc
        by_cases hnj : n ≤ j
        · have HX : Hid ((cs.take (j + 1)).drop n = xs ++ [cs.getD j false]) := by unfold Hid; rw [drop_step (by rw [HCN.out]; exact hlt) hnj, Hxs.out]
          generalize cs.getD j false = co at *
          go_wp2_with (at_builtin; refine wpList_append_lies _ rfl (.tmp 23) (.tmp 25) 81 rfl w.heap.size 4 i0 (.bool false) 1 1 Try.underlying81 hi0 hz0 hz1 hz2 rfl (by decide) (.slice (some ⟨g, 0, none⟩) xs.length c) xs.length (xs.map Value.bool) rfl (Hown.out.alloc _) ⟨wr.heap.size, 0, none⟩ 1 1 [.bool co] rfl rfl (one_new _ _ _) (one_bool _) (by decide) (by unfold maxLen; omega) (by omega) (by simp; omega) (wr.heap.size + 1) (by simp) ?_; intro g2 cap2 w1 hown1 hgrow1 hat1 hlt1)
          go_roundw
          case rel =>
            refine ⟨j + 1, g2, cap2, xs ++ [co], by omega, by go_num, by simp, ?_, HX.out.symm, ?_, by simp; omega⟩
            · simpa [Hid] using hown1
            · refine (Hb.out.alloc hwz _).grown hgrow1 (by simp; omega) (fun k hk => ?_)
              simp [Value.ownBlock] at hk
              subst hk
              exact (Hown.out.lt g rfl).1
          case measure => simp [intOf]; omega
        · have HX : Hid (xs = (cs.take (j + 1)).drop n) := by unfold Hid; rw [drop_none (by omega), Hxs.out, drop_none (by omega)]
          go_wp2
          go_roundw
          case rel => exact ⟨j + 1, g, c, xs, by omega, by go_num, rfl, Hown, HX, Hb, by omega⟩
          case measure => simp [intOf]; omega
      · have hjn : j = cn := by omega
        subst hjn
        have hdw := (Hb.out.block d hdz).trans HD.out
        obtain ⟨e0, e1, e2, ez⟩ := blk3 hdw
        have HDW := hid hdw
        clear hdw
        go_wp2
        go_end0
        refine ⟨rfl, .slice (some ⟨g, 0, none⟩) xs.length c, ?_, ?_, .inr ?_, below_fr (a := ⟨d, 1, none⟩) Hb.out rfl _⟩
        · have := blk_set (i := 1) (.slice (some ⟨g, 0, none⟩) xs.length c) HDW.out
          simpa using this
        · have hx := Hxs.out
          rw [List.take_of_length_le (by rw [HCN.out]; exact Nat.le_refl _)] at hx
          rw [← hx]
          refine ownsRow_block (ownsRow_base Hown.out (Nat.zero_le _)) (fun b hb => ?_)
          simp [Value.ownBlock] at hb
          subst hb
          have := (Hown.out.lt g rfl).1
          exact Below.heap_setCell _ _ _ _ (by simp; omega)
        · intro b hb
          simp [Value.ownBlock] at hb
          subst hb
          exact (Hown.out.lt g rfl).1

set_option maxHeartbeats 1000000 in
set_option maxRecDepth 100000 in
theorem lay_any (d : Nat) (r vt vk : Value) (cs : List Bool) (s : ByteArray) (w : World) (hd : w.heap[d]? = some (.cells #[r, vt, vk] 86 (0, 0))) (ht : Bools w vt cs) (hcs : cs.length ≤ 1048576) (hs : s.size ≤ 1048576) :
    Calls Try.prog 107 #[.pointer (some ⟨d, 1, none⟩), .string s] w fun e w' => e = .returned (.tuple #[]) ∧ ∃ vt', w'.heap[d]? = some (.cells #[r, vt', vk] 86 (0, 0)) ∧ Bools w' vt' (cs ++ coinsOf s.data.toList) ∧ (∀ b, vt'.ownBlock = some b → vt.ownBlock = some b ∨ w.heap.size ≤ b) ∧ Fr (fun b => b = d ∨ vt.ownBlock = some b) w w' := by
  have HD := hid hd
  have HT := hid ht
  have hdz := lt_of_blk' hd
  obtain ⟨i0, hi0, hz0, hz1, hz2⟩ := info_parts Try.infoBool
  clear hd ht
  go_enter Try.func107, Try.ntmps107
  go_wp2
  go_loopw [4] (fun si wr => ∃ (j : Nat) (v : Value), j ≤ s.size ∧ si = .int .i64 j ∧ Hid (wr.heap[d]? = some (.cells #[r, v, vk] 86 (0, 0))) ∧ Hid (Bools wr v (cs ++ coinsOf (s.data.toList.take j))) ∧ Hid (∀ b, v.ownBlock = some b → vt.ownBlock = some b ∨ w.heap.size ≤ b) ∧ Hid (Fr (fun b => b = d ∨ vt.ownBlock = some b) w wr)) (fun si _ => s.size - (intOf si).toNat)
  case atStart => exact ⟨0, vt, Nat.zero_le _, rfl, HD, by simpa [Hid, coinsOf] using HT.out, fun b h => .inl h, Fr.refl _ _⟩
  case round =>
    obtain ⟨j, v, hj, rfl, Hd, Hb, Hv, Hf⟩ := hrel
    by_cases hlt : j < s.size
    · obtain ⟨c0, c1, c2, cz⟩ := blk3 Hd.out
      have hdr := lt_of_blk' Hd.out
      have HS := hid (take_snoc s j hlt)
      obtain ⟨ao, c, rfl, hcl, hcm, hno, hso⟩ := Hb.out.form
      have HB := hid Hb.out
      have hln : (cs ++ coinsOf (s.data.toList.take j)).length ≤ 2097152 := by simp [coinsOf]; omega
      have hs1 : (0 : Int) ≤ (j : Int) := by omega
      have hs2 : (j : Int) < (s.size : Int) := by omega
      generalize hxs : cs ++ coinsOf (s.data.toList.take j) = xs at *
      have HXS := hid hxs
      generalize hco : ((s[j].toNat : Int) == 49) = co at *
      have HCO := hid hco
      have HNE : Hid (Value.ownBlock (.slice ao xs.length c) ≠ some d) := by
        intro e
        obtain ⟨cc, hc⟩ := HB.out.kind e
        rw [Hd.out] at hc; cases hc
      clear hxs hno hso Hb
      go_wp2
      go_region_law ((refine step_append_lies _ (by rfl) (.tmp 15) (.tmp 20) 81 (by rfl) 0 4 i0 (.bool false) 1 1 Try.underlying81 hi0 hz0 hz1 hz2 rfl (by decide) (.slice ao xs.length c) xs.length (xs.map Value.bool) (by rfl) (HB.out.alloc _) ⟨wr.heap.size, 0, none⟩ 1 1 [.bool co] (by rfl) rfl (one_new _ _ _) (one_bool _) (by decide) (by unfold maxLen; omega) (by omega) (Nat.zero_le _) (wr.heap.size + 1) (by simp) ?_; intro g2 cap2 w1 hown1 hgrow1 hat1 hlt1; have hq := (hgrow1.block d (by simp; omega) (Ne.symm HNE.out)).trans ((Below.heap_alloc wr _ d hdr).trans Hd.out); obtain ⟨q0, q1, q2, qz⟩ := blk3 hq))
      all_goals
        go_wp2
        go_roundw
        case rel =>
          have hfin : cs ++ coinsOf (s.data.toList.take (j + 1)) = xs ++ [co] := by
            rw [HS.out, coinsOf, List.map_append, ← List.append_assoc]
            have := HXS.out
            rw [coinsOf] at this
            rw [this, ← HCO.out, ← coin_eq]; rfl
          refine ⟨j + 1, .slice (some ⟨g2, 0, none⟩) (xs.length + 1) cap2, by omega, by go_num, ?_, ?_, ?_, ?_⟩
          · have := blk_set (i := 1) (.slice (some ⟨g2, 0, none⟩) (xs.length + 1) cap2) hq
            simpa [Hid] using this
          · rw [hfin]
            have ho : w1.ownsRow 0 4 1 (.slice (some ⟨g2, 0, none⟩) (xs.length + 1) cap2) (xs ++ [co]).length ((xs ++ [co]).map Value.bool) := by simpa using hown1
            refine ownsRow_block ho (fun b hb => Below.heap_setCell _ _ _ _ (fun e => ?_))
            simp at e
            subst e
            rcases ho.2 with ⟨e, _⟩ | ⟨g', c', cur, e, _, hh, _⟩
            · cases e
            · rw [e] at hb
              simp [Value.ownBlock] at hb
              subst hb
              rw [hq] at hh; cases hh
          · intro b hb
            simp [Value.ownBlock] at hb
            subst hb
            rcases hat1 with h | h
            · exact Hv.out g2 h
            · have := Hf.out.size; exact .inr (by omega)
          · refine Fr.set (Hf.out.trans (T := fun b => Value.ownBlock (.slice ao xs.length c) = some b) ⟨hgrow1.os, hgrow1.tape, hgrow1.output, by have := hgrow1.size; simp at this; omega, fun b hb hn => (hgrow1.block b (by simp; omega) (fun e => hn e.symm)).trans (Below.heap_alloc wr _ b hb)⟩ (fun x hx h => ?_)) (fun _ => .inl rfl) _
            rcases Hv.out x h with h | h
            · exact .inr h
            · omega
        case measure => simp [intOf]; omega
    · have HE : Hid (s.data.toList.take j = s.data.toList) := by unfold Hid; rw [List.take_of_length_le (by simp; omega)]
      have hb := Hb.out
      rw [HE.out] at hb
      have HB := hid hb
      clear hb Hb
      go_wp2
      go_end0
      exact ⟨rfl, v, Hd.out, HB.out, Hv.out, Hf.out⟩

end Go.Proofs.Ytklicjbpjigfdab
