/- DERIVED. The walk of texts.Write: the sketch's text. -/
import Derived.Test.YtaajcmoenemmlabWriteW
import Derived.Deep.Cut
import Derived.Deep.CutRange
namespace Go.Proofs.Ytaajcmoenemmlab
open Go.RowKit
variable {F : Nat → Prop}

/-- Bytes as a text. -/
def txt (bs : List Nat) : ByteArray := ⟨(bs.map UInt8.ofNat).toArray⟩

/-- The two bytes that each text begins with. -/
theorem WrSt.first {w w1 : World} {g cap : Nat} {o : Obj} (hown : w1.ownsRow (w.heap.size + 1) 5 1 (.slice (some ⟨g, 0, none⟩) 2 cap) 2 (Go.Lib.strCells ⟨#[83, 75]⟩)) (hgrow : ((w.alloc o).alloc (.cells #[.slice none 0 0] 93)).grownBy w1 none) :
    WrSt (w.heap.size + 1) (w.heap.size + 1) [83, 75] (w.alloc o) (w1.setCell ⟨w.heap.size + 1, 0, none⟩ (.slice (some ⟨g, 0, none⟩) 2 cap)) := by
  have hb : w1.heap[w.heap.size + 1]? = some (.cells #[.slice none 0 0] 93 (0, 0)) := by
    have := grown_new2' (w := w) hgrow (by simp)
    exact this
  have hne : g ≠ w.heap.size + 1 := by
    intro e
    subst e
    rcases hown.2 with ⟨e', _⟩ | ⟨g', cap', cur, e', _, hh, _⟩
    · cases e'
    · cases e'
      rw [hb] at hh; cases hh
  refine ⟨some ⟨g, 0, none⟩, cap, Nat.le_refl _, ?_, ?_, ?_⟩
  · have := blk_set (i := 0) (.slice (some ⟨g, 0, none⟩) 2 cap) hb
    simpa using this
  · exact ownsRow_block hown (fun b e => by simp [Value.ownBlock] at e; subst e; exact Below.heap_setCell _ _ _ _ hne)
  · refine Below.setCell ?_ (by simp) _
    exact ((Below.refl _ _).alloc (by simp) _).grown hgrow (by simp) (fun k hk => by cases hk)
/-- The sketch that is written is still there. -/
theorem WrSt.box {w wr : World} {a b c d : Value} {e : TypeId} {p : Nat} {cs : List Nat} (h : WrSt (w.heap.size + 1) p cs (w.alloc (.cells #[a, b, c, d] e)) wr) :
    wr.cell? ⟨w.heap.size, 0, none⟩ = some a ∧ wr.cell? ⟨w.heap.size, 1, none⟩ = some b ∧ wr.cell? ⟨w.heap.size, 2, none⟩ = some c ∧ wr.cell? ⟨w.heap.size, 3, none⟩ = some d ∧ Below w.heap.size w wr ∧ w.heap.size + 1 ≤ wr.heap.size := by
  obtain ⟨ao, cc, h1, h2, h3, h4⟩ := h
  have hz := lt_of_blk' h2
  have h5 : Below (w.alloc (.cells #[a, b, c, d] e)).heap.size (w.alloc (.cells #[a, b, c, d] e)) wr := by simpa using h4
  obtain ⟨b0, b1, b2, b3⟩ := box4 h5
  exact ⟨b0, b1, b2, b3, ((Below.refl _ _).alloc (Nat.le_refl _) _).trans (h4.mono (by omega)), by omega⟩

theorem hdrB_step {L : List Lvl} {j : Nat} (h : j < L.length) : hdrB (L.drop j) = leB 1 (L.getD j Lvl.none).items.length ++ (leB 4 (L.getD j Lvl.none).times ++ hdrB (L.drop (j + 1))) := by
  rw [lv_drop L j h, hdrB]
theorem itemsB_step {L : List Lvl} {j : Nat} (h : j < L.length) : itemsB (L.drop j) = numsB (L.getD j Lvl.none).items ++ itemsB (L.drop (j + 1)) := by
  rw [lv_drop L j h, itemsB]
theorem numsB_step {xs : List Int} {j : Nat} (h : j < xs.length) : numsB (xs.drop j) = leB 8 (u64 (xs.getD j 0)) ++ numsB (xs.drop (j + 1)) := by
  rw [List.drop_eq_getElem_cons h, numsB]; simp [List.getD, h]
theorem u64_nat {n : Nat} (h : n < 18446744073709551616) : u64 (n : Int) = n := by unfold u64; omega

/-- The bytes as a text. -/
theorem conv_txt {w : World} {B n c : Nat} {ao : Option Addr} {bs : List Nat} (h : w.ownsRow B 5 1 (.slice ao n c) n (byts bs)) (hb : ∀ x ∈ bs, x < 256) (hn : 0 < n) : (convert 45 9 (.slice ao n c)).run Try.prog w = .ok (.string (txt bs)) w := by
  obtain ⟨hl, _, hf⟩ := byts_form h
  obtain ⟨g, rfl, _, _⟩ := hf 0 hn
  have := run_convert_bytes_back (P := Try.prog) w 45 9 5 ⟨g, 0, none⟩ c (bs.map UInt8.ofNat) Try.underlying45 Try.underlying5 Try.underlying9 (fun j hj => by
    have hj' : j < n := by simpa [hl] using hj
    obtain ⟨g', e, _, hc⟩ := hf j hj'
    cases e
    rw [Addr.add_lit, Nat.zero_add, hc]
    have hjb : j < bs.length := by omega
    have hx := hb _ (List.getElem_mem hjb)
    simp [List.getD, hjb]
    omega)
  rw [List.length_map, hl] at this
  exact this

set_option maxHeartbeats 2000000 in
set_option maxRecDepth 100000 in
theorem write_any (k g cap : Nat) (lo hi : Int) (vs : List Value) (L : List Lvl) (w : World) (hL : LvAt F w g cap vs L) (hk : k ≤ 64) (hlen : L.length ≤ 29) (hws : wsum L ≤ 268435456) (htm : ∀ j, (L.getD j Lvl.none).times ≤ 549755813888) :
    Calls Try.prog 23 #[skVal k g L.length cap lo hi] w fun e w' => e = .returned (.string (txt (writeB ⟨k, L, lo, hi⟩))) ∧ Below w.heap.size w w' := by
  obtain ⟨i0, hi0, hz0, hz1, hz2⟩ := info_parts Try.infoByte
  have hns := nsum_le L
  have HCO := hid (fun (w' : World) (hb : Below w.heap.size w w') => count_any (F := F) k g cap lo hi vs L w' (hL.below hb) (by omega) (by omega))
  have HLV := hid hL
  generalize hn : L.length = n at *
  have HN := hid hn
  clear hL hn
  go_enter Try.func23, Try.ntmps23
  go_upto_region 3 with (first | (at_builtin; refine Go.Lib.wpList_append_own_string _ rfl (.tmp 14) _ 45 9 rfl (w.heap.size + 1) 5 i0 Try.underlying45 Try.underlying9 hi0 hz0 hz1 hz2 (.slice none 0 0) 0 [] rfl (World.ownsRow_nil _ _ _ _) ⟨#[83, 75]⟩ rfl (by decide) (by decide) (by simp) ?_; intro v1 w1 hown1 hgrow1 hz9; clear hz9; obtain ⟨g1, cap1, rfl, hg1, hgl1⟩ := hown1.form (by decide); obtain ⟨q0, qz⟩ := blk1 (grown_new2' (w := w) hgrow1 (by simp [Value.ownBlock]))))
  have HW1 : Hid (WrSt (w.heap.size + 1) (w.heap.size + 1) [83, 75] (w.alloc (.cells #[.int .i64 (k : Int), .slice (some ⟨g, 0, none⟩) n cap, .int .i64 lo, .int .i64 hi] 56)) (w1.setCell ⟨w.heap.size + 1, 0, none⟩ (.slice (some ⟨g1, 0, none⟩) 2 cap1))) := WrSt.first hown1 hgrow1
  clear hown1 hgrow1 hg1 hgl1 q0 qz
  generalize w1.setCell ⟨w.heap.size + 1, 0, none⟩ (.slice (some ⟨g1, 0, none⟩) 2 cap1) = W1 at *
  have HP := hid (fun (x : Int) (m : Nat) (cs : List Nat) (wx : World) (h : WrSt (w.heap.size + 1) (w.heap.size + 1) cs (w.alloc (.cells #[.int .i64 (k : Int), .slice (some ⟨g, 0, none⟩) n cap, .int .i64 lo, .int .i64 hi] 56)) wx) (hm : m ≤ 8) (hl : cs.length ≤ 1099511627776) => tput_any (w.heap.size + 1) (w.heap.size + 1) m x cs _ wx h hm hl)
  obtain ⟨b0, b1, b2, b3, hbw, hwz⟩ := HW1.out.box
  go_wp2_with fail
  refine (HP.out (k : Int) 1 _ _ HW1.out (by decide) (by simp)).mono ?_
  rintro e w2 ⟨rfl, hw2, hk2⟩
  have HW2 := hid hw2
  clear b0 b1 b2 b3 hbw hwz HW1 hw2 hk2
  obtain ⟨b0, b1, b2, b3, hbw, hwz⟩ := HW2.out.box
  go_wp2_with fail
  refine (HP.out (n : Int) 1 _ _ HW2.out (by decide) (by simp [leB])).mono ?_
  rintro e w3 ⟨rfl, hw3, hk3⟩
  have HW3 := hid hw3
  clear b0 b1 b2 b3 hbw hwz HW2 hw3 hk3
  obtain ⟨b0, b1, b2, b3, hbw, hwz⟩ := HW3.out.box
  have HT1 : Hid (([83, 75] ++ leB 1 (u64 (k : Int)) ++ leB 1 (u64 (n : Int))) ++ hdrB L = [83, 75] ++ leB 1 (u64 (k : Int)) ++ leB 1 (u64 (n : Int)) ++ hdrB L) := rfl
  generalize hP1 : [83, 75] ++ leB 1 (u64 (k : Int)) ++ leB 1 (u64 (n : Int)) = P1 at *
  have HP1 := hid hP1
  have hpl : P1.length = 4 := by rw [← hP1]; simp [leB]
  clear hP1
  go_wp2_with fail
  go_loopw [27] (fun si wr => ∃ (j : Nat) (cs : List Nat), j ≤ n ∧ si = .int .i64 j ∧ cs.length = 4 + 5 * j ∧ Hid (cs ++ hdrB (L.drop j) = P1 ++ hdrB L) ∧ Hid (WrSt (w.heap.size + 1) (w.heap.size + 1) cs (w.alloc (.cells #[.int .i64 (k : Int), .slice (some ⟨g, 0, none⟩) n cap, .int .i64 lo, .int .i64 hi] 56)) wr)) (fun si _ => n - (intOf si).toNat)
  case atStart => exact ⟨0, P1, Nat.zero_le _, rfl, by omega, rfl, HW3⟩
  case round =>
    obtain ⟨j, cs, hj, rfl, hcl, Hc, Hw⟩ := hrel
    clear b0 b1 b2 b3 hbw hwz HW3
    obtain ⟨b0, b1, b2, b3, hbw, hwz⟩ := Hw.out.box
    by_cases hlt : j < n
    · have hlt' : j < L.length := by rw [HN.out]; exact hlt
      have hL2 : LvAt F wr g cap vs L := HLV.out.below hbw
      obtain ⟨ao, cc, ev⟩ := hL2.itemsForm hlt'
      have c0 : wr.cell? ⟨g, j * 2, none⟩ = some (.slice ao (L.getD j Lvl.none).items.length cc) := (hL2.cell0 hlt').trans (by rw [ev])
      have c1 : wr.cell? ⟨g, j * 2 + 1, none⟩ = some (.int .i64 ((L.getD j Lvl.none).times : Int)) := hL2.cell1 hlt'
      have HS := hid (hdrB_step hlt')
      clear ev hL2
      have hm := nsum_at hlt'
      have htj := htm j
      generalize (L.getD j Lvl.none).items.length = m at *
      generalize (L.getD j Lvl.none).times = tm at *
      have HWa := hid (Hw.out.below ((Below.refl wr.heap.size wr).alloc (Nat.le_refl _) (.cells #[.slice ao m cc, .int .i64 (tm : Int)] 96)))
      have hlv := heap_alloc_new wr (.cells #[.slice ao m cc, .int .i64 (tm : Int)] 96)
      have HLVA := hid hlv
      clear hlv
      go_wp2_with fail
      refine (HP.out (m : Int) 1 _ _ HWa.out (by decide) (by omega)).mono ?_
      rintro e w4 ⟨rfl, hw4, hk4⟩
      have hlv4 := (hk4.2 _ _ _ _ HLVA.out (by decide) (by decide)).trans HLVA.out
      obtain ⟨l0, l1, lz⟩ := blk2 hlv4
      have HW4 := hid hw4
      clear b0 b1 b2 b3 hbw hwz c0 c1 hw4 hk4 hlv4
      go_wp2_with fail
      refine (HP.out (tm : Int) 4 _ _ HW4.out (by decide) (by simp [leB]; omega)).mono ?_
      rintro e w5 ⟨rfl, hw5, hk5⟩
      have HW5 := hid hw5
      clear hw5 hk5 l0 l1 lz
      go_wp2_with fail
      go_roundw
      case rel =>
        refine ⟨j + 1, _, by omega, by go_num, ?_, ?_, HW5⟩
        · simp [leB]; omega
        · have := Hc.out
          rw [HS.out] at this
          unfold Hid
          rw [← this, u64_nat (n := m) (by omega), u64_nat (n := tm) (by omega)]
          simp only [List.append_assoc]
      case measure => simp [intOf]; omega
    · have HE : Hid (cs = P1 ++ hdrB L) := by
        have := Hc.out
        rw [List.drop_eq_nil_of_le (by rw [HN.out]; omega), hdrB, List.append_nil] at this
        exact this
      have HEN : Hid (endsB ⟨k, L, lo, hi⟩ = if wsum L = 0 then [] else leB 8 (u64 lo) ++ leB 8 (u64 hi)) := rfl
      have hel : (endsB ⟨k, L, lo, hi⟩).length ≤ 16 := by rw [HEN.out]; split <;> simp [leB_length]
      generalize endsB ⟨k, L, lo, hi⟩ = E at *
      go_upto_if 41 with (go_at_call 45; refine (HCO.out _ hbw).mono ?_; rintro e w6 ⟨rfl, hb6⟩)
      have HW6 := hid (Hw.out.below hb6)
      clear b0 b1 b2 b3 hbw hwz hb6 Hc Hw
      obtain ⟨b0, b1, b2, b3, hbw, hwz⟩ := HW6.out.box
      go_cut [] from 27 (fun we => WrSt (w.heap.size + 1) (w.heap.size + 1) (cs ++ E) (w.alloc (.cells #[.int .i64 (k : Int), .slice (some ⟨g, 0, none⟩) n cap, .int .i64 lo, .int .i64 hi] 56)) we)
      case first =>
        by_cases hw0 : 0 < wsum L
        · have hw0' : decide ((0 : Int) < (wsum L : Int)) = true := by simp; omega
          go_wp2_with fail
          refine (HP.out lo 8 _ _ HW6.out (by decide) (by omega)).mono ?_
          rintro e w7 ⟨rfl, hw7, hk7⟩
          have HW7 := hid hw7
          clear b0 b1 b2 b3 hbw hwz hw7 hk7
          obtain ⟨b0, b1, b2, b3, hbw, hwz⟩ := HW7.out.box
          go_wp2_with fail
          refine (HP.out hi 8 _ _ HW7.out (by decide) (by simp [leB_length]; omega)).mono ?_
          rintro e w8 ⟨rfl, hw8, hk8⟩
          have HW8 := hid hw8
          clear hw8 hk8
          go_wp2_with fail
          go_meet
          have := HW8.out
          rw [List.append_assoc] at this
          rw [HEN.out, if_neg (by omega)]
          exact this
        · have hw0' : decide ((0 : Int) < (wsum L : Int)) = false := by simp; omega
          go_wp2_with fail
          go_meet
          rw [HEN.out, if_pos (by omega), List.append_nil]
          exact HW6.out
      case rest =>
      have HW9 := hid hcut
      clear hcut b0 b1 b2 b3 hbw hwz HW6
      obtain ⟨b0, b1, b2, b3, hbw, hwz⟩ := HW9.out.box
      have HT2 : Hid (cs ++ E ++ itemsB L = bodyB ⟨k, L, lo, hi⟩) := by
        unfold Hid bodyB
        rw [HE.out, ← HP1.out, u64_nat (n := k) (by omega), u64_nat (n := n) (by omega)]
        simp only [HN.out, List.append_assoc, endsB]
        rw [HEN.out]
      have hbl : (bodyB ⟨k, L, lo, hi⟩).length ≤ 4294967296 := by
        rw [bodyB_length]
        simp only [HN.out]
        split <;> omega
      have HBB := hid (bodyB_lt ⟨k, L, lo, hi⟩)
      have HWR := hid (writeB_eq ⟨k, L, lo, hi⟩)
      have HWL := hid (writeB_lt ⟨k, L, lo, hi⟩)
      generalize hWB : writeB ⟨k, L, lo, hi⟩ = WB at *
      have HWBE := hid hWB
      clear hWB
      generalize bodyB ⟨k, L, lo, hi⟩ = BB at *
      generalize cs ++ E = P3 at *
      clear HE HEN hel HP1 HCO
      go_wp2_with fail
      go_loopw [51] (fun si wr => ∃ (j : Nat) (ds : List Nat), j ≤ n ∧ si = .int .i64 j ∧ Hid (ds ++ itemsB (L.drop j) = BB) ∧ Hid (WrSt (w.heap.size + 1) (w.heap.size + 1) ds (w.alloc (.cells #[.int .i64 (k : Int), .slice (some ⟨g, 0, none⟩) n cap, .int .i64 lo, .int .i64 hi] 56)) wr)) (fun si _ => n - (intOf si).toNat)
      case atStart => exact ⟨0, P3, Nat.zero_le _, rfl, HT2, HW9⟩
      case round =>
        obtain ⟨j, ds, hj, rfl, Hd, Hw⟩ := hrel
        clear b0 b1 b2 b3 hbw hwz HW9 HT2
        obtain ⟨b0, b1, b2, b3, hbw, hwz⟩ := Hw.out.box
        by_cases hlt : j < n
        · have hlt' : j < L.length := by rw [HN.out]; exact hlt
          have hL2 : LvAt F wr g cap vs L := HLV.out.below hbw
          obtain ⟨ao, cc, ev, _, _, hno, hso⟩ := (HLV.out.its j hlt').form
          have c0 := hL2.cell0 hlt'
          rw [ev] at c0
          have c1 : wr.cell? ⟨g, j * 2 + 1, none⟩ = some (.int .i64 ((L.getD j Lvl.none).times : Int)) := hL2.cell1 hlt'
          have HS := hid (itemsB_step hlt')
          have HDL : Hid (ds.length ≤ BB.length) := by have := congrArg List.length Hd.out; rw [List.length_append] at this; unfold Hid; omega
          have hm := nsum_at hlt'
          clear ev hL2
          generalize (L.getD j Lvl.none).items = its at *
          generalize hmn : its.length = m at *
          have HM := hid hmn
          have HNO := hid hno
          have HSO := hid hso
          have HBW := hid hbw
          generalize (L.getD j Lvl.none).times = tm at *
          have HWa := hid (Hw.out.below ((Below.refl wr.heap.size wr).alloc (Nat.le_refl _) (.cells #[.slice ao m cc, .int .i64 (tm : Int)] 96)))
          have HBA : Hid (Below wr.heap.size wr (wr.alloc (.cells #[.slice ao m cc, .int .i64 (tm : Int)] 96))) := (Below.refl wr.heap.size wr).alloc (Nat.le_refl _) _
          clear hmn hno hso hbw
          go_wp2_with fail
          go_loopw [58] (fun si wz => ∃ (i : Nat) (es : List Nat), i ≤ m ∧ si = .int .i64 i ∧ Hid (es ++ numsB (its.drop i) = ds ++ numsB its) ∧ Hid (WrSt (w.heap.size + 1) (w.heap.size + 1) es (w.alloc (.cells #[.int .i64 (k : Int), .slice (some ⟨g, 0, none⟩) n cap, .int .i64 lo, .int .i64 hi] 56)) wz)) (fun si _ => m - (intOf si).toNat)
          case atStart => exact ⟨0, ds, Nat.zero_le _, rfl, by simp [Hid], HWa⟩
          case round =>
            obtain ⟨i, es, hi', rfl, He, Hz⟩ := hrel
            clear b0 b1 b2 b3 hwz c0 c1
            obtain ⟨b0, b1, b2, b3, hbz, hwz⟩ := Hz.out.box
            by_cases hil : i < m
            · obtain ⟨gi, rfl⟩ : ∃ g, ao = some ⟨g, 0, none⟩ := by
                cases ao with
                | none => have := (HNO.out rfl).1; rw [this] at HM; have := HM.out; simp at this; omega
                | some a => obtain ⟨g, rfl, _⟩ := HSO.out a rfl; exact ⟨g, rfl⟩
              obtain ⟨gi', e1, hgi, hcc⟩ := HSO.out _ rfl
              cases e1
              have hcell : wr.cell? ⟨gi, i, none⟩ = some (.int .i64 (its.getD i 0)) := (hbz.cell hgi).trans (hcc i hil)
              have HS2 := hid (numsB_step (xs := its) (j := i) (by rw [HM.out]; exact hil))
              have hel : es.length ≤ 1099511627776 := by
                have h1 := congrArg List.length He.out
                have h2 := HDL.out
                have h3 := HM.out
                rw [List.length_append, List.length_append, numsB_length, numsB_length] at h1
                omega
              generalize its.getD i 0 = x at *
              clear hcc
              go_wp2_with fail
              refine (HP.out x 8 _ _ Hz.out (by decide) hel).mono ?_
              rintro e w12 ⟨rfl, hw12, hk12⟩
              have HW12 := hid hw12
              clear hw12 hk12 b0 b1 b2 b3 hbz hwz
              go_wp2_with fail
              go_roundw
              case rel =>
                refine ⟨i + 1, _, by omega, by go_num, ?_, HW12⟩
                have := He.out
                rw [HS2.out] at this
                unfold Hid
                rw [← this, List.append_assoc]
              case measure => simp [intOf]; omega
            · have HEE : Hid (es = ds ++ numsB its) := by
                have := He.out
                rw [List.drop_eq_nil_of_le (by rw [HM.out]; omega), numsB, List.append_nil] at this
                exact this
              go_wp2_with fail
              go_roundw
              case rel =>
                refine ⟨j + 1, es, by omega, by go_num, ?_, Hz⟩
                have := Hd.out
                rw [HS.out] at this
                unfold Hid
                rw [HEE.out, ← this, List.append_assoc]
              case measure => simp [intOf]; omega
        · have HE2 : Hid (ds = BB) := by
            have := Hd.out
            rw [List.drop_eq_nil_of_le (by rw [HN.out]; omega), itemsB, List.append_nil] at this
            exact this
          have HWB : Hid (WrSt (w.heap.size + 1) (w.heap.size + 1) BB (w.alloc (.cells #[.int .i64 (k : Int), .slice (some ⟨g, 0, none⟩) n cap, .int .i64 lo, .int .i64 hi] 56)) wr) := by have := Hw.out; rw [HE2.out] at this; exact this
          have hA := ckA_lt BB
          have hC := ckB_lt BB 0 0 (by decide)
          have HCK := hid (check_any _ _ BB _ wr HWB.out HBB.out)
          generalize ckA BB 0 = ca at *
          generalize ckB BB 0 0 = cb at *
          clear b0 b1 b2 b3 hbw hwz Hd Hw HE2
          go_wp2_with fail
          refine HCK.out.mono ?_
          rintro e w9 ⟨rfl, hw9⟩
          obtain rfl := hw9.symm
          clear HCK
          go_wp2_with fail
          refine (HP.out (ca : Int) 1 _ _ HWB.out (by decide) (by omega)).mono ?_
          rintro e w10 ⟨rfl, hw10, hk10⟩
          have HW10 := hid hw10
          clear hw10 hk10
          go_wp2_with fail
          refine (HP.out (cb : Int) 1 _ _ HW10.out (by decide) (by simp [leB_length]; omega)).mono ?_
          rintro e w11 ⟨rfl, hw11, hk11⟩
          have HF : Hid (WrSt (w.heap.size + 1) (w.heap.size + 1) WB (w.alloc (.cells #[.int .i64 (k : Int), .slice (some ⟨g, 0, none⟩) n cap, .int .i64 lo, .int .i64 hi] 56)) w11) := by
            have := hw11
            rw [u64_nat (n := ca) (by omega), u64_nat (n := cb) (by omega)] at this
            unfold Hid
            rw [HWR.out]
            simpa [leB, Nat.mod_eq_of_lt hA, Nat.mod_eq_of_lt hC] using this
          have hwl : 0 < WB.length := by rw [HWR.out]; simp
          obtain ⟨aof, cf, hpf, hbf, hrf, hlf⟩ := HF.out
          have hcv := conv_txt hrf HWL.out hwl
          obtain ⟨f0, fz⟩ := blk1 hbf
          have HLF := hid (((Below.refl _ _).alloc (Nat.le_refl _) _).trans (hlf.mono (by omega)))
          clear hw11 hk11 hpf hbf hrf hlf
          go_wp2_with fail
          go_ret
          exact ⟨by rw [HWBE.out]; rfl, HLF.out⟩

end Go.Proofs.Ytaajcmoenemmlab
