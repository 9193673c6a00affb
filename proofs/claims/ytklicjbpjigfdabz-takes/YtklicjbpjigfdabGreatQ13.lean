/- DERIVED. The walk of texts.Write: the sketch's text. -/
import Derived.Test.YtklicjbpjigfdabGreatQ11
import Derived.Deep.Cut
import Derived.Deep.CutRange
import Derived.Test.YtklicjbpjigfdabGreatQ12
import Derived.Test.YtklicjbpjigfdabGreatQ9
import Derived.Test.YtklicjbpjigfdabGreatQ0
namespace Go.Proofs.YtklicjbpjigfdabGreat
open Go.RowKit
variable {F : Nat → Prop}

/-- Bytes as a text. -/
def txt (bs : List Nat) : ByteArray := ⟨(bs.map UInt8.ofNat).toArray⟩

/-- The two bytes that each text begins with. -/
theorem WrSt.first {w w1 : World} {g cap : Nat} {o : Obj} (hown : w1.ownsRow (w.heap.size + 1) 5 1 (.slice (some ⟨g, 0, none⟩) 2 cap) 2 (Go.Lib.strCells ⟨#[83, 75]⟩)) (hgrow : ((w.alloc o).alloc (.cells #[.slice none 0 0] 169)).grownBy w1 none) :
    WrSt (w.heap.size + 1) (w.heap.size + 1) [83, 75] (w.alloc o) (w1.setCell ⟨w.heap.size + 1, 0, none⟩ (.slice (some ⟨g, 0, none⟩) 2 cap)) := by
  have hb : w1.heap[w.heap.size + 1]? = some (.cells #[.slice none 0 0] 169 (0, 0)) := by
    have := grown_new2' (w := w) hgrow (by simp)
    exact this
  have hne : g ≠ w.heap.size + 1 := by
    intro e
    subst e
    rcases hown.2 with ⟨e', _⟩ | ⟨g', cap', cur, e', _, hh, _⟩
    · cases e'
    · cases e'
      rw [hb] at hh; cases hh
  refine ⟨some ⟨g, 0, none⟩, cap, Nat.le_refl _, ?_, ?_, ?_⟩
  · have := blk_set (i := 0) (.slice (some ⟨g, 0, none⟩) 2 cap) hb
    simpa using this
  · exact ownsRow_block hown (fun b e => by simp [Value.ownBlock] at e; subst e; exact Below.heap_setCell _ _ _ _ hne)
  · refine Below.setCell ?_ (by simp) _
    exact ((Below.refl _ _).alloc (by simp) _).grown hgrow (by simp) (fun k hk => by cases hk)
/-- The sketch that is written is still there. -/
theorem WrSt.box {w wr : World} {a b c d : Value} {e : TypeId} {p : Nat} {cs : List Nat} (h : WrSt (w.heap.size + 1) p cs (w.alloc (.cells #[a, b, c, d] e)) wr) :
    wr.cell? ⟨w.heap.size, 0, none⟩ = some a ∧ wr.cell? ⟨w.heap.size, 1, none⟩ = some b ∧ wr.cell? ⟨w.heap.size, 2, none⟩ = some c ∧ wr.cell? ⟨w.heap.size, 3, none⟩ = some d ∧ Below w.heap.size w wr ∧ w.heap.size + 1 ≤ wr.heap.size := by
  obtain ⟨ao, cc, h1, h2, h3, h4⟩ := h
  have hz := lt_of_blk' h2
  have h5 : Below (w.alloc (.cells #[a, b, c, d] e)).heap.size (w.alloc (.cells #[a, b, c, d] e)) wr := by simpa using h4
  obtain ⟨b0, b1, b2, b3⟩ := box4 h5
  exact ⟨b0, b1, b2, b3, ((Below.refl _ _).alloc (Nat.le_refl _) _).trans (h4.mono (by omega)), by omega⟩

theorem hdrB_step {L : List Lvl} {j : Nat} (h : j < L.length) : hdrB (L.drop j) = leB 1 (L.getD j Lvl.none).items.length ++ (leB 4 (L.getD j Lvl.none).times ++ hdrB (L.drop (j + 1))) := by
  rw [lv_drop L j h, hdrB]
theorem itemsB_step {L : List Lvl} {j : Nat} (h : j < L.length) : itemsB (L.drop j) = numsB (L.getD j Lvl.none).items ++ itemsB (L.drop (j + 1)) := by
  rw [lv_drop L j h, itemsB]
theorem numsB_step {xs : List Int} {j : Nat} (h : j < xs.length) : numsB (xs.drop j) = leB 8 (u64 (xs.getD j 0)) ++ numsB (xs.drop (j + 1)) := by
  rw [List.drop_eq_getElem_cons h, numsB]; simp [List.getD, h]
theorem u64_nat {n : Nat} (h : n < 18446744073709551616) : u64 (n : Int) = n := by unfold u64; omega

/-- The bytes as a text. -/
theorem conv_txt {w : World} {B n c : Nat} {ao : Option Addr} {bs : List Nat} (h : w.ownsRow B 5 1 (.slice ao n c) n (byts bs)) (hb : ∀ x ∈ bs, x < 256) (hn : 0 < n) : (convert 167 9 (.slice ao n c)).run Tryz.prog w = .ok (.string (txt bs)) w := by
  obtain ⟨hl, _, hf⟩ := byts_form h
  obtain ⟨g, rfl, _, _⟩ := hf 0 hn
  have := run_convert_bytes_back (P := Tryz.prog) w 167 9 5 ⟨g, 0, none⟩ c (bs.map UInt8.ofNat) Tryz.underlying167 Tryz.underlying5 Tryz.underlying9 (fun j hj => by
    have hj' : j < n := by simpa [hl] using hj
    obtain ⟨g', e, _, hc⟩ := hf j hj'
    cases e
    rw [Addr.add_lit, Nat.zero_add, hc]
    have hjb : j < bs.length := by omega
    have hx := hb _ (List.getElem_mem hjb)
    simp [List.getD, hjb]
    omega)
  rw [List.length_map, hl] at this
  exact this

set_option maxHeartbeats 2000000 in
set_option maxRecDepth 100000 in
theorem write_any (k g cap : Nat) (lo hi : Int) (vs : List Value) (L : List Lvl) (w : World) (hL : LvAt F w g cap vs L) (hk : k ≤ 64) (hlen : L.length ≤ 29) (hws : wsum L ≤ 268435456) (htm : ∀ j, (L.getD j Lvl.none).times ≤ 549755813888) :
    Calls Tryz.prog 80 #[skVal k g L.length cap lo hi] w fun e w' => e = .returned (.string (txt (writeB ⟨k, L, lo, hi⟩))) ∧ Below w.heap.size w w' := by
  obtain ⟨i0, hi0, hz0, hz1, hz2⟩ := info_parts Tryz.infoByte
  have hns := nsum_le L
  have HCO := hid (fun (w' : World) (hb : Below w.heap.size w w') => count_any (F := F) k g cap lo hi vs L w' (hL.below hb) (by omega) (by omega))
  have HLV := hid hL
  generalize hn : L.length = n at *
  have HN := hid hn
  clear hL hn
  go_enter Tryz.func80, Tryz.ntmps80
  go_upto_region 3 with (first | (at_builtin; refine Go.Lib.wpList_append_own_string _ rfl (.tmp 14) _ 167 9 rfl (w.heap.size + 1) 5 i0 Tryz.underlying167 Tryz.underlying9 hi0 hz0 hz1 hz2 (.slice none 0 0) 0 [] rfl (World.ownsRow_nil _ _ _ _) ⟨#[83, 75]⟩ rfl (by decide) (by decide) (by simp) ?_; intro v1 w1 hown1 hgrow1 hz9; clear hz9; obtain ⟨g1, cap1, rfl, hg1, hgl1⟩ := hown1.form (by decide); obtain ⟨q0, qz⟩ := blk1 (grown_new2' (w := w) hgrow1 (by simp [Value.ownBlock]))))
  have HW1 : Hid (WrSt (w.heap.size + 1) (w.heap.size + 1) [83, 75] (w.alloc (.cells #[.int .i64 (k : Int), .slice (some ⟨g, 0, none⟩) n cap, .int .i64 lo, .int .i64 hi] 64)) (w1.setCell ⟨w.heap.size + 1, 0, none⟩ (.slice (some ⟨g1, 0, none⟩) 2 cap1))) := WrSt.first hown1 hgrow1
  clear hown1 hgrow1 hg1 hgl1 q0 qz
  generalize w1.setCell ⟨w.heap.size + 1, 0, none⟩ (.slice (some ⟨g1, 0, none⟩) 2 cap1) = W1 at *
  have HP := hid (fun (x : Int) (m : Nat) (cs : List Nat) (wx : World) (h : WrSt (w.heap.size + 1) (w.heap.size + 1) cs (w.alloc (.cells #[.int .i64 (k : Int), .slice (some ⟨g, 0, none⟩) n cap, .int .i64 lo, .int .i64 hi] 64)) wx) (hm : m ≤ 8) (hl : cs.length ≤ 1099511627776) => tput_any (w.heap.size + 1) (w.heap.size + 1) m x cs _ wx h hm hl)
  obtain ⟨b0, b1, b2, b3, hbw, hwz⟩ := HW1.out.box
  go_wp2_with fail
  refine (HP.out (k : Int) 1 _ _ HW1.out (by decide) (by simp)).mono ?_
  rintro e w2 ⟨rfl, hw2, hk2⟩
  have HW2 := hid hw2
  clear b0 b1 b2 b3 hbw hwz HW1 hw2 hk2
  obtain ⟨b0, b1, b2, b3, hbw, hwz⟩ := HW2.out.box
  go_wp2_with fail
  refine (HP.out (n : Int) 1 _ _ HW2.out (by decide) (by simp [leB])).mono ?_
  rintro e w3 ⟨rfl, hw3, hk3⟩
  have HW3 := hid hw3
  clear b0 b1 b2 b3 hbw hwz HW2 hw3 hk3
  obtain ⟨b0, b1, b2, b3, hbw, hwz⟩ := HW3.out.box
  have HT1 : Hid (([83, 75] ++ leB 1 (u64 (k : Int)) ++ leB 1 (u64 (n : Int))) ++ hdrB L = [83, 75] ++ leB 1 (u64 (k : Int)) ++ leB 1 (u64 (n : Int)) ++ hdrB L) := rfl
  generalize hP1 : [83, 75] ++ leB 1 (u64 (k : Int)) ++ leB 1 (u64 (n : Int)) = P1 at *
  have HP1 := hid hP1
  have hpl : P1.length = 4 := by rw [← hP1]; simp [leB]
  clear hP1
  go_wp2_with fail
  go_loopw [27] (fun si wr => ∃ (j : Nat) (cs : List Nat), j ≤ n ∧ si = .int .i64 j ∧ cs.length = 4 + 5 * j ∧ Hid (cs ++ hdrB (L.drop j) = P1 ++ hdrB L) ∧ Hid (WrSt (w.heap.size + 1) (w.heap.size + 1) cs (w.alloc (.cells #[.int .i64 (k : Int), .slice (some ⟨g, 0, none⟩) n cap, .int .i64 lo, .int .i64 hi] 64)) wr)) (fun si _ => n - (intOf si).toNat)
  case atStart => exact ⟨0, P1, Nat.zero_le _, rfl, by omega, rfl, HW3⟩
  case round =>
    obtain ⟨j, cs, hj, rfl, hcl, Hc, Hw⟩ := hrel
    clear b0 b1 b2 b3 hbw hwz HW3
    obtain ⟨b0, b1, b2, b3, hbw, hwz⟩ := Hw.out.box
    by_cases hlt : j < n
    · have hlt' : j < L.length := by rw [HN.out]; exact hlt
      have hL2 : LvAt F wr g cap vs L := HLV.out.below hbw
      obtain ⟨ao, cc, ev⟩ := hL2.itemsForm hlt'
      have c0 : wr.cell? ⟨g, j * 2, none⟩ = some (.slice ao (L.getD j Lvl.none).items.length cc) := (hL2.cell0 hlt').trans (by rw [ev])
      have c1 : wr.cell? ⟨g, j * 2 + 1, none⟩ = some (.int .i64 ((L.getD j Lvl.none).times : Int)) := hL2.cell1 hlt'
      have HS := hid (hdrB_step hlt')
      clear ev hL2
      have hm := nsum_at hlt'
      have htj := htm j
      generalize (L.getD j Lvl.none).items.length = m at *
      generalize (L.getD j Lvl.none).times = tm at *
      have HWa := hid (Hw.out.below ((Below.refl wr.heap.size wr).alloc (Nat.le_refl _) (.cells #[.slice ao m cc, .int .i64 (tm : Int)] 140)))
      have hlv := heap_alloc_new wr (.cells #[.slice ao m cc, .int .i64 (tm : Int)] 140)
      have HLVA := hid hlv
      clear hlv
      go_wp2_with fail
      refine (HP.out (m : Int) 1 _ _ HWa.out (by decide) (by omega)).mono ?_
      rintro e w4 ⟨rfl, hw4, hk4⟩
      have hlv4 := (hk4.2 _ _ _ _ HLVA.out (by decide) (by decide)).trans HLVA.out
      obtain ⟨l0, l1, lz⟩ := blk2 hlv4
      have HW4 := hid hw4
      clear b0 b1 b2 b3 hbw hwz c0 c1 hw4 hk4 hlv4
      go_wp2_with fail
      refine (HP.out (tm : Int) 4 _ _ HW4.out (by decide) (by simp [leB]; omega)).mono ?_
      rintro e w5 ⟨rfl, hw5, hk5⟩
      have HW5 := hid hw5
      clear hw5 hk5 l0 l1 lz
      go_wp2_with fail
      go_roundw
      case rel =>
        refine ⟨j + 1, _, by omega, by go_num, ?_, ?_, HW5⟩
        · simp [leB]; omega
        · have := Hc.out
          rw [HS.out] at this
          unfold Hid
          rw [← this, u64_nat (n := m) (by omega), u64_nat (n := tm) (by omega)]
          simp only [List.append_assoc]
      case measure => simp [intOf]; omega
    · have HE : Hid (cs = P1 ++ hdrB L) := by
        have := Hc.out
        rw [List.drop_eq_nil_of_le (by rw [HN.out]; omega), hdrB, List.append_nil] at this
        exact this
      have HEN : Hid (endsB ⟨k, L, lo, hi⟩ = if wsum L = 0 then [] else leB 8 (u64 lo) ++ leB 8 (u64 hi)) := rfl
      have hel : (endsB ⟨k, L, lo, hi⟩).length ≤ 16 := by rw [HEN.out]; split <;> simp [leB_length]
      generalize endsB ⟨k, L, lo, hi⟩ = E at *
      go_upto_if 41 with (go_at_call 60; refine (HCO.out _ hbw).mono ?_; rintro e w6 ⟨rfl, hb6⟩)
      have HW6 := hid (Hw.out.below hb6)
      clear b0 b1 b2 b3 hbw hwz hb6 Hc Hw
      obtain ⟨b0, b1, b2, b3, hbw, hwz⟩ := HW6.out.box
      go_cut [] from 27 (fun we => WrSt (w.heap.size + 1) (w.heap.size + 1) (cs ++ E) (w.alloc (.cells #[.int .i64 (k : Int), .slice (some ⟨g, 0, none⟩) n cap, .int .i64 lo, .int .i64 hi] 64)) we)
      case first =>
        by_cases hw0 : 0 < wsum L
        · have hw0' : decide ((0 : Int) < (wsum L : Int)) = true := by simp; omega
          go_wp2_with fail
          refine (HP.out lo 8 _ _ HW6.out (by decide) (by omega)).mono ?_
          rintro e w7 ⟨rfl, hw7, hk7⟩
          have HW7 := hid hw7
          clear b0 b1 b2 b3 hbw hwz hw7 hk7
          obtain ⟨b0, b1, b2, b3, hbw, hwz⟩ := HW7.out.box
          go_wp2_with fail
          refine (HP.out hi 8 _ _ HW7.out (by decide) (by simp [leB_length]; omega)).mono ?_
          rintro e w8 ⟨rfl, hw8, hk8⟩
          have HW8 := hid hw8
          clear hw8 hk8
          go_wp2_with fail
          go_meet
          have := HW8.out
          rw [List.append_assoc] at this
          rw [HEN.out, if_neg (by omega)]
          exact this
        · have hw0' : decide ((0 : Int) < (wsum L : Int)) = false := by simp; omega
          go_wp2_with fail
          go_meet
          rw [HEN.out, if_pos (by omega), List.append_nil]
          exact HW6.out
      case rest =>
      have HW9 := hid hcut
      clear hcut b0 b1 b2 b3 hbw hwz HW6
      obtain ⟨b0, b1, b2, b3, hbw, hwz⟩ := HW9.out.box
      have HT2 : Hid (cs ++ E ++ itemsB L = bodyB ⟨k, L, lo, hi⟩) := by
        unfold Hid bodyB
        rw [HE.out, ← HP1.out, u64_nat (n := k) (by omega), u64_nat (n := n) (by omega)]
        simp only [HN.out, List.append_assoc, endsB]
        rw [HEN.out]
      have hbl : (bodyB ⟨k, L, lo, hi⟩).length ≤ 4294967296 := by
        rw [bodyB_length]
        simp only [HN.out]
        split <;> omega
      have HBB := hid (bodyB_lt ⟨k, L, lo, hi⟩)
      have HWR := hid (writeB_eq ⟨k, L, lo, hi⟩)
      have HWL := hid (writeB_lt ⟨k, L, lo, hi⟩)
      generalize hWB : writeB ⟨k, L, lo, hi⟩ = WB at *
      have HWBE := hid hWB
      clear hWB
      generalize bodyB ⟨k, L, lo, hi⟩ = BB at *
      generalize cs ++ E = P3 at *
      clear HE HEN hel HP1 HCO
      go_wp2_with fail
      go_loopw [51] (fun si wr => ∃ (j : Nat) (ds : List Nat), j ≤ n ∧ si = .int .i64 j ∧ Hid (ds ++ itemsB (L.drop j) = BB) ∧ Hid (WrSt (w.heap.size + 1) (w.heap.size + 1) ds (w.alloc (.cells #[.int .i64 (k : Int), .slice (some ⟨g, 0, none⟩) n cap, .int .i64 lo, .int .i64 hi] 64)) wr)) (fun si _ => n - (intOf si).toNat)
      case atStart => exact ⟨0, P3, Nat.zero_le _, rfl, HT2, HW9⟩
      case round =>
        obtain ⟨j, ds, hj, rfl, Hd, Hw⟩ := hrel
        clear b0 b1 b2 b3 hbw hwz HW9 HT2
        obtain ⟨b0, b1, b2, b3, hbw, hwz⟩ := Hw.out.box
        by_cases hlt : j < n
        · have hlt' : j < L.length := by rw [HN.out]; exact hlt
          have hL2 : LvAt F wr g cap vs L := HLV.out.below hbw
          obtain ⟨ao, cc, ev, _, _, hno, hso⟩ := (HLV.out.its j hlt').form
          have c0 := hL2.cell0 hlt'
          rw [ev] at c0
          have c1 : wr.cell? ⟨g, j * 2 + 1, none⟩ = some (.int .i64 ((L.getD j Lvl.none).times : Int)) := hL2.cell1 hlt'
          have HS := hid (itemsB_step hlt')
          have HDL : Hid (ds.length ≤ BB.length) := by have := congrArg List.length Hd.out; rw [List.length_append] at this; unfold Hid; omega
          have hm := nsum_at hlt'
          clear ev hL2
          generalize (L.getD j Lvl.none).items = its at *
          generalize hmn : its.length = m at *
          have HM := hid hmn
          have HNO := hid hno
          have HSO := hid hso
          have HBW := hid hbw
          generalize (L.getD j Lvl.none).times = tm at *
          have HWa := hid (Hw.out.below ((Below.refl wr.heap.size wr).alloc (Nat.le_refl _) (.cells #[.slice ao m cc, .int .i64 (tm : Int)] 140)))
          have HBA : Hid (Below wr.heap.size wr (wr.alloc (.cells #[.slice ao m cc, .int .i64 (tm : Int)] 140))) := (Below.refl wr.heap.size wr).alloc (Nat.le_refl _) _
          clear hmn hno hso hbw
          go_wp2_with fail
          go_loopw [58] (fun si wz => ∃ (i : Nat) (es : List Nat), i ≤ m ∧ si = .int .i64 i ∧ Hid (es ++ numsB (its.drop i) = ds ++ numsB its) ∧ Hid (WrSt (w.heap.size + 1) (w.heap.size + 1) es (w.alloc (.cells #[.int .i64 (k : Int), .slice (some ⟨g, 0, none⟩) n cap, .int .i64 lo, .int .i64 hi] 64)) wz)) (fun si _ => m - (intOf si).toNat)
          case atStart => exact ⟨0, ds, Nat.zero_le _, rfl, by simp [Hid], HWa⟩
          case round =>
            obtain ⟨i, es, hi', rfl, He, Hz⟩ := hrel
            clear b0 b1 b2 b3 hwz c0 c1
            obtain ⟨b0, b1, b2, b3, hbz, hwz⟩ := Hz.out.box
            by_cases hil : i < m
            · obtain ⟨gi, rfl⟩ : ∃ g, ao = some ⟨g, 0, none⟩ := by
                cases ao with
                | none => have := (HNO.out rfl).1; rw [this] at HM; have := HM.out; simp at this; omega
                | some a => obtain ⟨g, rfl, _⟩ := HSO.out a rfl; exact ⟨g, rfl⟩
              obtain ⟨gi', e1, hgi, hcc⟩ := HSO.out _ rfl
              cases e1
              have hcell : wr.cell? ⟨gi, i, none⟩ = some (.int .i64 (its.getD i 0)) := (hbz.cell hgi).trans (hcc i hil)
              have HS2 := hid (numsB_step (xs := its) (j := i) (by rw [HM.out]; exact hil))
              have hel : es.length ≤ 1099511627776 := by
                have h1 := congrArg List.length He.out
                have h2 := HDL.out
                have h3 := HM.out
                rw [List.length_append, List.length_append, numsB_length, numsB_length] at h1
                omega
              generalize its.getD i 0 = x at *
              clear hcc
              go_wp2_with fail
              refine (HP.out x 8 _ _ Hz.out (by decide) hel).mono ?_
              rintro e w12 ⟨rfl, hw12, hk12⟩
              have HW12 := hid hw12
              clear hw12 hk12 b0 b1 b2 b3 hbz hwz
              go_wp2_with fail
              go_roundw
              case rel =>
                refine ⟨i + 1, _, by omega, by go_num, ?_, HW12⟩
                have := He.out
                rw [HS2.out] at this
                unfold Hid
                rw [← this, List.append_assoc]
              case measure => simp [intOf]; omega
            · have HEE : Hid (es = ds ++ numsB its) := by
                have := He.out
                rw [List.drop_eq_nil_of_le (by rw [HM.out]; omega), numsB, List.append_nil] at this
                exact this
              go_wp2_with fail
              go_roundw
              case rel =>
                refine ⟨j + 1, es, by omega, by go_num, ?_, Hz⟩
                have := Hd.out
                rw [HS.out] at this
                unfold Hid
                rw [HEE.out, ← this, List.append_assoc]
              case measure => simp [intOf]; omega
        · have HE2 : Hid (ds = BB) := by
            have := Hd.out
            rw [List.drop_eq_nil_of_le (by rw [HN.out]; omega), itemsB, List.append_nil] at this
            exact this
          have HWB : Hid (WrSt (w.heap.size + 1) (w.heap.size + 1) BB (w.alloc (.cells #[.int .i64 (k : Int), .slice (some ⟨g, 0, none⟩) n cap, .int .i64 lo, .int .i64 hi] 64)) wr) := by have := Hw.out; rw [HE2.out] at this; exact this
          have hA := ckA_lt BB
          have hC := ckB_lt BB 0 0 (by decide)
          have HCK := hid (check_any _ _ BB _ wr HWB.out HBB.out)
          generalize ckA BB 0 = ca at *
          generalize ckB BB 0 0 = cb at *
          clear b0 b1 b2 b3 hbw hwz Hd Hw HE2
          go_wp2_with fail
          refine HCK.out.mono ?_
          rintro e w9 ⟨rfl, hw9⟩
          obtain rfl := hw9.symm
          clear HCK
          go_wp2_with fail
          refine (HP.out (ca : Int) 1 _ _ HWB.out (by decide) (by omega)).mono ?_
          rintro e w10 ⟨rfl, hw10, hk10⟩
          have HW10 := hid hw10
          clear hw10 hk10
          go_wp2_with fail
          refine (HP.out (cb : Int) 1 _ _ HW10.out (by decide) (by simp [leB_length]; omega)).mono ?_
          rintro e w11 ⟨rfl, hw11, hk11⟩
          have HF : Hid (WrSt (w.heap.size + 1) (w.heap.size + 1) WB (w.alloc (.cells #[.int .i64 (k : Int), .slice (some ⟨g, 0, none⟩) n cap, .int .i64 lo, .int .i64 hi] 64)) w11) := by
            have := hw11
            rw [u64_nat (n := ca) (by omega), u64_nat (n := cb) (by omega)] at this
            unfold Hid
            rw [HWR.out]
            simpa [leB, Nat.mod_eq_of_lt hA, Nat.mod_eq_of_lt hC] using this
          have hwl : 0 < WB.length := by rw [HWR.out]; simp
          obtain ⟨aof, cf, hpf, hbf, hrf, hlf⟩ := HF.out
          have hcv := conv_txt hrf HWL.out hwl
          obtain ⟨f0, fz⟩ := blk1 hbf
          have HLF := hid (((Below.refl _ _).alloc (Nat.le_refl _) _).trans (hlf.mono (by omega)))
          clear hw11 hk11 hpf hbf hrf hlf
          go_wp2_with fail
          go_ret
          exact ⟨by rw [HWBE.out]; rfl, HLF.out⟩

end Go.Proofs.YtklicjbpjigfdabGreat

/- DERIVED. The walks of texts.Read, of the desk's Encode and Decode. -/
namespace Go.Proofs.YtklicjbpjigfdabGreat
open Go.RowKit
variable {F : Nat → Prop}
attribute [local go_sem ↓] Go.wp_at_zero Go.wp_at_succ

theorem bytesOf_txt {l : List Nat} (h : ∀ x ∈ l, x < 256) : bytesOf (txt l) = l := by
  unfold bytesOf txt
  simp only [List.map_map]
  conv => rhs; rw [← List.map_id l]
  apply List.map_congr_left
  intro x hx
  have := h x hx
  simp [UInt8.toNat_ofNat']
  omega
theorem txt_bytesOf (t : ByteArray) : txt (bytesOf t) = t := by
  unfold bytesOf txt
  cases t with
  | mk d =>
    simp only [List.map_map]
    congr 1
    apply Array.ext'
    simp only
    conv => rhs; rw [← List.map_id d.toList]
    apply List.map_congr_left
    intro x _
    simp
theorem txt_eq {l : List Nat} {t : ByteArray} (h : ∀ x ∈ l, x < 256) : txt l = t ↔ l = bytesOf t := by
  constructor
  · intro e; rw [← e, bytesOf_txt h]
  · intro e; rw [e, txt_bytesOf]

theorem told_times {t : List Nat} (h : ∀ x ∈ t, x < 256) (j : Nat) : ((toldS t).lv.getD j Lvl.none).times ≤ 549755813888 := by
  rw [List.getD_eq_getElem?_getD]
  cases e : (toldS t).lv[j]? with
  | none => simp [Lvl.none]
  | some l => have := ((toldS_fits h).lv l (List.mem_of_getElem? e)).2.1; simp; omega

theorem bl_yes {a b : ByteArray} (h : a = b) : (a.toList == b.toList) = true := by rw [h]; simp
theorem bl_no {a b : ByteArray} (h : ¬ a = b) : (a.toList == b.toList) = false := by
  rw [ByteArray.toList_eq, ByteArray.toList_eq, beq_eq_false_iff_ne]
  intro e
  apply h
  cases a; cases b
  simp only at e
  congr 1
  exact Array.ext' e

abbrev skNo : Value := .agg #[.int .i64 0, .slice none 0 0, .int .i64 0, .int .i64 0]

set_option maxHeartbeats 1000000 in
set_option maxRecDepth 100000 in
theorem read_any (t : ByteArray) (w : World) (ht : t.size ≤ 140737488355328) (hF : ∀ b, w.heap.size ≤ b → F b) :
    Calls Tryz.prog 67 #[.string t] w fun e w' => Below w.heap.size w w' ∧ (isText (bytesOf t) = false → e = .returned (.tuple #[skNo, .bool false])) ∧ (isText (bytesOf t) = true → ∃ g vs, e = .returned (.tuple #[skVal (toldS (bytesOf t)).k g (toldS (bytesOf t)).lv.length (toldS (bytesOf t)).lv.length (toldS (bytesOf t)).lo (toldS (bytesOf t)).hi, .bool true]) ∧ w.heap.size ≤ g ∧ LvAt F w' g (toldS (bytesOf t)).lv.length vs (toldS (bytesOf t)).lv) := by
  have HT := hid (told_any (F := F) t (w.alloc skZero) ht (fun b hb => hF b (by simp at hb; omega)))
  have HFT := hid (toldS_fits (bytesOf_lt t))
  have HTM := hid (told_times (bytesOf_lt t))
  have HIS : Hid (isText (bytesOf t) = (soundB (toldS (bytesOf t)) && decide (writeB (toldS (bytesOf t)) = bytesOf t))) := rfl
  have HTX := hid (txt_eq (t := t) (writeB_lt (toldS (bytesOf t))))
  generalize isText (bytesOf t) = it at *
  generalize toldS (bytesOf t) = s at *
  obtain ⟨k, L, lo, hi⟩ := s
  have hres : (w.alloc skZero).heap[w.heap.size]? = some skZero := heap_alloc_new _ _
  have HRES := hid hres
  clear hres
  go_enter Tryz.func67, Tryz.ntmps67
  go_wp2_with fail
  refine HT.out.mono ?_
  rintro e w1 ⟨g, vs, rfl, hg, hL, hb⟩
  simp only at hL ⊢
  have HG : Hid (w.heap.size < g) := by unfold Hid; simp at hg; omega
  have HL := hid hL
  have HB := hid (((Below.refl _ _).alloc (Nat.le_refl _) _).trans (hb.mono (by simp)) : Below w.heap.size w w1)
  have HRES1 := hid ((hb.block _ (by simp)).trans HRES.out)
  have hz := hb.size
  simp at hz
  have HZ := hid hz
  have HSD := hid (sound_any (F := F) k g L.length lo hi vs L _ (hL.below ((Below.refl _ _).alloc (Nat.le_refl _) (skBlk k g L.length L.length lo hi))) HFT.out.k HFT.out.n (fun l hl => (HFT.out.lv l hl).1) HTM.out)
  have HSI := hid (shapeB_iff ⟨k, L, lo, hi⟩)
  have HSS : Hid (soundB ⟨k, L, lo, hi⟩ = true → shapeB ⟨k, L, lo, hi⟩ = true) := by
    intro h
    simp only [soundB, Bool.and_eq_true] at h
    exact h.1
  generalize hsb : soundB ⟨k, L, lo, hi⟩ = sb at *
  have HWR := hid (fun (h : sb = true) (w' : World) (hb : Below w1.heap.size w1 w') => write_any (F := F) k g L.length lo hi vs L w' (HL.out.below hb) (HSI.out.1 (HSS.out h)).2.1 (HSI.out.1 (HSS.out h)).2.2.2.1 (HSI.out.1 (HSS.out h)).2.2.2.2.2.2 HTM.out)
  generalize hwb : writeB ⟨k, L, lo, hi⟩ = wb at *
  clear hL hb hg hz hsb hwb HT HSI HSS HRES
  generalize hn : L.length = n at *
  have HN := hid hn
  clear hn
  have HBA : Hid (Below w1.heap.size w1 (w1.alloc (skBlk k g n n lo hi))) := (Below.refl _ _).alloc (Nat.le_refl _) _
  have HBX := hid (heap_alloc_new w1 (skBlk k g n n lo hi))
  go_wp2_with fail
  refine HSD.out.mono ?_
  rintro e w2 ⟨rfl, hb2⟩
  have HB2 := hid (HBA.out.trans (hb2.mono (by simp)))
  have HBX2 := hid ((hb2.block w1.heap.size (by simp)).trans HBX.out)
  have HRES2 := hid ((HB2.out.block w.heap.size (by have := HZ.out; omega)).trans HRES1.out)
  clear hb2 HSD
  obtain ⟨d0, d1, d2, d3, dz⟩ := blk4 HRES2.out
  obtain ⟨f0, f1, f2, f3, fz⟩ := blk4 HBX2.out
  cases h1 : sb with
  | false =>
    have HF : Hid (it = false) := by unfold Hid; rw [HIS.out, h1, Bool.false_and]
    go_wp2_with fail
    refine bodyPost_ret (v := .tuple #[skNo, .bool false]) (by simp [results, Tryz.results67, go_sem, d0, d1, d2, d3]) rfl ⟨?_, fun _ => rfl, fun h => by rw [HF.out] at h; cases h⟩
    exact below_set4 (HB.out.trans (HB2.out.mono HB.out.size)) (Nat.le_refl _) _ _ _ _
  | true =>
    have HE : Hid (it = decide (wb = bytesOf t)) := by unfold Hid; rw [HIS.out, h1, Bool.true_and]
    have H1 := hid h1
    clear h1
    go_wp2_with fail
    refine (HWR.out H1.out _ HB2.out).mono ?_
    rintro e w3 ⟨rfl, hb3⟩
    have HB3 := hid (HB2.out.trans (hb3.mono HB2.out.size))
    have HBX3 := hid ((hb3.block w1.heap.size (lt_of_blk' HBX2.out)).trans HBX2.out)
    have HRES3 := hid ((hb3.block w.heap.size (lt_of_blk' HRES2.out)).trans HRES2.out)
    clear hb3 HWR d0 d1 d2 d3 dz f0 f1 f2 f3 fz
    obtain ⟨d0, d1, d2, d3, dz⟩ := blk4 HRES3.out
    obtain ⟨f0, f1, f2, f3, fz⟩ := blk4 HBX3.out
    by_cases h2 : txt wb = t
    · have HY : Hid (it = true) := by unfold Hid; rw [HE.out, decide_eq_true_eq]; exact HTX.out.1 h2
      have h2' := bl_yes h2
      go_wp2_with fail
      refine bodyPost_ret (v := .tuple #[skVal k g n n lo hi, .bool true]) (by simp [results, Tryz.results67, go_sem, d0, d1, d2, d3]) rfl ⟨?_, (fun h => by rw [HY.out] at h; cases h), fun _ => ⟨g, vs, ?_, ?_, ?_⟩⟩
      · exact below_set4 (HB.out.trans (HB3.out.mono HB.out.size)) (Nat.le_refl _) _ _ _ _
      · simp only [HN.out]
      · exact Nat.le_of_lt HG.out
      · simp only [HN.out]
        refine (HL.out.below HB3.out).block (fun c hc => set4_other _ _ _ _ (fun e => ?_))
        subst e
        rcases hc with hc | ⟨c, hc⟩
        · have := HG.out; omega
        · rw [HRES3.out] at hc; cases hc
    · have HF : Hid (it = false) := by unfold Hid; rw [HE.out, decide_eq_false_iff_not]; exact fun e => h2 (HTX.out.2 e)
      have h2' := bl_no h2
      go_wp2_with fail
      refine bodyPost_ret (v := .tuple #[skNo, .bool false]) (by simp [results, Tryz.results67, go_sem, d0, d1, d2, d3]) rfl ⟨?_, fun _ => rfl, fun h => by rw [HF.out] at h; cases h⟩
      exact below_set4 (HB.out.trans (HB3.out.mono HB.out.size)) (Nat.le_refl _) _ _ _ _

set_option maxHeartbeats 1000000 in
set_option maxRecDepth 100000 in
theorem decode_no (d : Nat) (t : ByteArray) (w : World) (ht : t.size ≤ 140737488355328) (hi : isText (bytesOf t) = false) :
    Calls Tryz.prog 53 #[.pointer (some ⟨d, 0, none⟩), .string t] w fun e w' => e = .returned (.tuple #[.int .i64 0, .int .i64 9]) ∧ Below w.heap.size w w' := by
  have HR := hid (read_any (F := fun _ => True) t w ht (fun _ _ => trivial))
  have HI := hid hi
  clear hi
  go_enter Tryz.func53, Tryz.ntmps53
  go_wp2_with fail
  refine HR.out.mono ?_
  rintro e w1 ⟨hb, h1, _⟩
  obtain rfl := h1 HI.out
  have HB := hid hb
  clear h1 hb HR
  go_wp2_with fail
  go_ret2
  exact ⟨rfl, HB.out.alloc HB.out.size _⟩

set_option maxHeartbeats 1000000 in
set_option maxRecDepth 100000 in
theorem decode_ok (d : Nat) (D : Dk) (t : ByteArray) (w : World) (h : DeskAt F w d D) (ht : t.size ≤ 140737488355328) (hi : isText (bytesOf t) = true) (hr : D.sks.length < D.room) (hr2 : D.room ≤ 8) :
    Calls Tryz.prog 53 #[.pointer (some ⟨d, 0, none⟩), .string t] w fun e w' => e = .returned (.tuple #[.int .i64 (D.sks.length : Int), .int .i64 0]) ∧ DeskStep F w w' d { D with sks := D.sks ++ [⟨toldS (bytesOf t), false, []⟩] } := by
  have HR := hid (read_any (F := fun b => F b ∨ w.heap.size ≤ b) t w ht (fun _ h => .inr h))
  have HI := hid hi
  have HH := hid h
  generalize toldS (bytesOf t) = s at *
  clear h hi
  go_enter Tryz.func53, Tryz.ntmps53
  go_wp2_with fail
  refine HR.out.mono ?_
  rintro e w1 ⟨hb, _, h1⟩
  obtain ⟨g, vs, rfl, hg, hL⟩ := h1 HI.out
  have hal : Below w1.heap.size w1 (w1.alloc (skBlk s.k g s.lv.length s.lv.length s.lo s.hi)) := (Below.refl _ _).alloc (Nat.le_refl _) _
  have HD := hid (dbegin_any d g s.lv.length s vs D w _ HH.out (hb.trans (hal.mono hb.size)) (hL.below hal) hg hr hr2)
  clear hb h1 hg hL hal HR
  go_wp2_with fail
  refine HD.out.mono ?_
  rintro e w2 ⟨rfl, hst⟩
  have HST := hid hst
  clear hst
  go_wp2_with fail
  go_ret2
  exact ⟨rfl, HST.out⟩

set_option maxHeartbeats 1000000 in
set_option maxRecDepth 100000 in
theorem decode_full (d : Nat) (D : Dk) (t : ByteArray) (w : World) (h : DeskAt F w d D) (ht : t.size ≤ 140737488355328) (hi : isText (bytesOf t) = true) (hr : D.room ≤ D.sks.length) :
    Calls Tryz.prog 53 #[.pointer (some ⟨d, 0, none⟩), .string t] w fun e w' => e = .returned (.tuple #[.int .i64 0, .int .i64 3]) ∧ Below w.heap.size w w' := by
  have HR := hid (read_any (F := fun b => F b ∨ w.heap.size ≤ b) t w ht (fun _ h => .inr h))
  have HI := hid hi
  have HH := hid h
  generalize toldS (bytesOf t) = s at *
  clear h hi
  go_enter Tryz.func53, Tryz.ntmps53
  go_wp2_with fail
  refine HR.out.mono ?_
  rintro e w1 ⟨hb, _, h1⟩
  obtain ⟨g, vs, rfl, hg, hL⟩ := h1 HI.out
  have hal : Below w1.heap.size w1 (w1.alloc (skBlk s.k g s.lv.length s.lv.length s.lo s.hi)) := (Below.refl _ _).alloc (Nat.le_refl _) _
  have HBB := hid (hb.trans (hal.mono hb.size))
  have HD := hid (dbegin_full d g s.lv.length s D _ (HH.out.below HBB.out) hr)
  clear hb h1 hg hL hal HR
  go_wp2_with fail
  refine HD.out.mono ?_
  rintro e w2 ⟨rfl, hb2⟩
  have HB2 := hid (HBB.out.trans (hb2.mono HBB.out.size))
  clear hb2
  go_wp2_with fail
  go_ret2
  exact ⟨rfl, HB2.out⟩

set_option maxHeartbeats 400000 in
theorem encode_no (d : Nat) (D : Dk) (s : Int) (w : World) (h : DeskAt F w d D) (hs : hasB s D.sks.length = false) :
    Calls Tryz.prog 51 #[.pointer (some ⟨d, 0, none⟩), .int .i64 s] w fun e w' => e = .returned (.tuple #[.string ⟨#[]⟩, .int .i64 4]) ∧ w' = w := by
  obtain ⟨vt, vk, rs, h⟩ := h
  obtain ⟨ao, c, rfl, _⟩ := h.vkForm
  obtain ⟨_, _, c2, _⟩ := blk3 h.blk
  have HH := hid (has_any d s _ _ _ _ c2)
  rw [hs] at HH
  clear h
  go_enter Tryz.func51, Tryz.ntmps51
  go_wp2_with (go_at_call 59; refine HH.out.mono ?_; rintro e w' ⟨rfl, hw⟩; obtain rfl := hw.symm)
  go_ret2
  exact ⟨rfl, rfl⟩

set_option maxHeartbeats 400000 in
set_option maxRecDepth 100000 in
theorem encode_any (d : Nat) (D : Dk) (i : Nat) (w : World) (h : DeskAt F w d D) (hi : i < D.sks.length) (hok : (D.sks.getD i Hd.none).Ok) :
    Calls Tryz.prog 51 #[.pointer (some ⟨d, 0, none⟩), .int .i64 (i : Int)] w fun e w' => e = .returned (.tuple #[.string (txt (writeB (D.sks.getD i Hd.none).sk)), .int .i64 0]) ∧ Below w.heap.size w w' := by
  obtain ⟨vt, vk, rs, h⟩ := h
  obtain ⟨g, c, rfl, hg, q0, q1, q2, q3, q4⟩ := h.cells5 hi
  obtain ⟨_, _, c2, _⟩ := blk3 h.blk
  have HH := hid (has_any d (i : Int) _ _ _ _ c2)
  rw [hasB_nat hi] at HH
  have HL := hid (write_any (F := F) (D.sks.getD i Hd.none).sk.k _ _ (D.sks.getD i Hd.none).sk.lo (D.sks.getD i Hd.none).sk.hi _ _ w (h.lv i hi) hok.k2 hok.len hok.cnt hok.tms)
  generalize (D.sks.getD i Hd.none).sk = sk at *
  generalize rs.getD i Ref.none = r at *
  generalize (D.sks.getD i Hd.none).sealed = sl at *
  generalize D.sks.length = n at *
  clear h hok
  go_enter Tryz.func51, Tryz.ntmps51
  go_wp2_with (first | (go_at_call 59; refine HH.out.mono ?_; rintro e w' ⟨rfl, hw⟩; obtain rfl := hw.symm) | (go_at_call 80; refine HL.out.mono ?_; rintro e w1 ⟨rfl, hb1⟩; have HB1 := hid hb1; clear hb1))
  go_ret2
  exact ⟨rfl, HB1.out⟩

end Go.Proofs.YtklicjbpjigfdabGreat

/- DERIVED. What Ends answers, in three numbers. -/
namespace Go.Proofs.YtklicjbpjigfdabGreat
open Go.RowKit

/-- What Ends answers, in three numbers. -/
def eLo (s : Sk) : Int := if wsum s.lv = 0 then 0 else s.lo
def eHi (s : Sk) : Int := if wsum s.lv = 0 then 0 else s.hi
def eEr (s : Sk) : Int := if wsum s.lv = 0 then 8 else 0
theorem ends_form (s : Sk) : (if wsum s.lv = 0 then Value.tuple #[.int .i64 0, .int .i64 0, .int .i64 8] else .tuple #[.int .i64 s.lo, .int .i64 s.hi, .int .i64 0]) = .tuple #[.int .i64 (eLo s), .int .i64 (eHi s), .int .i64 (eEr s)] := by
  unfold eLo eHi eEr
  split <;> rfl
theorem eEr_zero (s : Sk) : (eEr s == 8) = decide (wsum s.lv = 0) ∧ (eEr s == 0) = !decide (wsum s.lv = 0) := by
  unfold eEr
  split
  · next h => simp [h]
  · next h => simp [h]

end Go.Proofs.YtklicjbpjigfdabGreat

/- DERIVED. What is known of a sketch that was read from a text. -/
namespace Go.Proofs.YtklicjbpjigfdabGreat
open Go.RowKit

/-- What is known of a sound sketch's items. -/
theorem sound_items {s : Sk} (h : soundB s = true) {j i : Nat} (hj : j < s.lv.length) (hi : i < (s.lv.getD j Lvl.none).items.length) :
    eLo s ≤ (s.lv.getD j Lvl.none).items.getD i 0 ∧ (s.lv.getD j Lvl.none).items.getD i 0 ≤ eHi s ∧ (0 < i → (s.lv.getD j Lvl.none).items.getD (i - 1) 0 ≤ (s.lv.getD j Lvl.none).items.getD i 0) := by
  have hw : wsum s.lv ≠ 0 := by
    intro e
    have h1 := nsum_le s.lv
    have h2 := nsum_at hj
    omega
  have hl : lvB s.lo s.hi (s.lv.getD j Lvl.none) = true := by
    simp only [soundB, Bool.and_eq_true] at h
    refine List.all_eq_true.1 h.2.2.1 _ ?_
    rw [List.getD_eq_getElem?_getD, List.getElem?_eq_getElem hj]
    exact List.getElem_mem hj
  unfold lvB at hl
  rw [Bool.and_eq_true, risesB_iff, List.all_eq_true] at hl
  unfold eLo eHi
  rw [if_neg hw, if_neg hw]
  have hm : (s.lv.getD j Lvl.none).items.getD i 0 ∈ (s.lv.getD j Lvl.none).items := by
    generalize (s.lv.getD j Lvl.none).items = its at *
    rw [List.getD_eq_getElem?_getD, List.getElem?_eq_getElem hi]
    exact List.getElem_mem hi
  have h1 := hl.1 _ hm
  simp only [Bool.and_eq_true, decide_eq_true_eq] at h1
  refine ⟨h1.1, h1.2, fun h0 => ?_⟩
  have := hl.2 (i - 1) (by omega)
  rwa [show i - 1 + 1 = i by omega] at this

theorem shape_ok {s : Sk} {b : Bool} (h : soundB s = true) (ht : ∀ j, (s.lv.getD j Lvl.none).times ≤ 549755813888) : Hd.Ok ⟨s, b, []⟩ := by
  simp only [soundB, Bool.and_eq_true] at h
  obtain ⟨h1, h2, h3, h4, h5, h6, h7⟩ := (shapeB_iff s).1 h.1
  exact ⟨h1, h2, h3, h4, h7, ht⟩

end Go.Proofs.YtklicjbpjigfdabGreat
