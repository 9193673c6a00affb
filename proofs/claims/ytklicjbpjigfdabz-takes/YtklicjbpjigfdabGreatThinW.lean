/- DERIVED. The walk of thin: level h of the sketch behind the pointer is thinned by the coin. -/
import Derived.Test.YtklicjbpjigfdabGreatQ3
import Derived.Deep.AppendLies
import Derived.Deep.RegionHeld3
import Derived.Deep.DrawnRows
import Derived.Deep.RegionWith
import Derived.Deep.Cut
import Derived.Deep.CutRange
namespace Go.Proofs.YtklicjbpjigfdabGreat
open Go.RowKit
variable {F : Nat → Prop}
attribute [local go_sem ↓] Go.wp_at_zero Go.wp_at_succ

set_option maxHeartbeats 1600000 in
set_option maxRecDepth 100000 in
theorem thin_any (B b k h : Nat) (coin : Bool) (lo hi : Int) (L : List Lvl) (w0 w : World) (hst : SkSt F B b k lo hi L w0 w) (hBb : B ≤ b) (hh : h < L.length) (hlen : L.length ≤ 30)
    (hbd : nsum L ≤ 1099511627776) (hne : 0 < (L.getD h Lvl.none).items.length) (htm : (L.getD h Lvl.none).times ≤ 1099511627776) (hF : ∀ b, B ≤ b → F b) :
    Calls Tryz.prog 108 #[.pointer (some ⟨b, 0, none⟩), .int .i64 (h : Int), .bool coin] w fun e w' => e = .returned (.tuple #[]) ∧ SkSt F B b k lo hi (thinL L h coin) w0 w' := by
  have HST := hid hst
  have HF := hid hF
  clear hF
  have hbz := hst.lt
  obtain ⟨g, cap, vs, hBg, hb, hL, hbel⟩ := hst
  have hBw : B ≤ w.heap.size := by omega
  obtain ⟨i0, hi0, hz0, hz1, hz2⟩ := info_parts Tryz.infoInt
  obtain ⟨c0, c1, c2, c3, fz⟩ := blk4 hb
  have e0 := hL.cell0 hh
  obtain ⟨ao, ci, ev, hcl, hcm, hnone, hsome⟩ := (hL.its h hh).form
  rw [ev] at e0
  obtain ⟨gi, rfl⟩ : ∃ g, ao = some ⟨g, 0, none⟩ := by
    cases ao with
    | none => have := (hnone rfl).1; rw [this] at hne; simp at hne
    | some a => obtain ⟨g, rfl, _⟩ := hsome a rfl; exact ⟨g, rfl⟩
  have HIts := hid (hL.its h hh)
  rw [ev] at HIts
  have hil : (L.getD h Lvl.none).items.length ≤ 1099511627776 := Nat.le_trans (nsum_at hh) hbd
  obtain ⟨n, hn⟩ : ∃ n, n = L.length := ⟨_, rfl⟩
  have HN : Hid (n = L.length) := hn
  rw [← hn] at hh hlen c1
  generalize hits : (L.getD h Lvl.none).items = its at *
  have HIT := hid hits
  generalize hm : its.length = m at *
  have HM := hid hm
  obtain ⟨go, hgo⟩ : ∃ go : Nat, go = m % 2 + (if coin then 1 else 0) := ⟨_, rfl⟩
  have HGO := hid hgo
  have hgo1 : m % 2 ≤ go := by omega
  have hgo2 : go ≤ m % 2 + 1 := by rw [hgo]; split <;> omega
  clear hn hits hm ev hb hgo hbel hL
  go_enter Tryz.func108, Tryz.ntmps108
  go_upto_if 23 with fail
  go_cut [8] from 11 (fun s8 wc => s8 = .int .i64 (go : Int) ∧ w = wc)
  case first =>
    cases coin
    · go_wp2_with fail
      go_meet
      refine ⟨?_, rfl⟩
      have := HGO.out; simp at this; rw [this]; go_num
    · go_wp2_with fail
      go_meet
      refine ⟨?_, rfl⟩
      have := HGO.out; simp at this; rw [this]; go_num
  case rest =>
    obtain ⟨rfl, rfl⟩ := hcut
    go_wp2_with (at_make; refine wpList_make_own _ rfl _ _ 28 rfl w.heap.size 3 i0 (.int .i64 0) 1 Tryz.underlying28 hi0 hz0 hz1 _ _ _ (m / 2) rfl rfl (by omega) (by rw [hz2]; omega) (by unfold maxLen; omega) (Nat.le_refl _) ?_; intro wx hown1 hgrow1)
    go_loopw [9, 10] (fun out si wr => ∃ (i : Nat) (xs : List Int), i = go + 2 * xs.length ∧ si = .int .i64 i ∧ out = .slice (some ⟨w.heap.size, 0, none⟩) xs.length (m / 2) ∧
        wr.ownsRow w.heap.size 3 1 (.slice (some ⟨w.heap.size, 0, none⟩) xs.length (m / 2)) xs.length (ints xs) ∧ Hid (xs ++ evens (its.drop i) = upOf its coin) ∧ Below w.heap.size w wr ∧ xs.length ≤ m / 2)
      (fun _ si _ => m - (intOf si).toNat)
    case atStart =>
      refine ⟨go, [], by simp, rfl, rfl, hown1, ?_, (Below.refl _ _).grown hgrow1 (Nat.le_refl _) (fun k h => by cases h), Nat.zero_le _⟩
      have := HGO.out; rw [List.nil_append, this, ← HM.out]; rfl
    case round =>
      obtain ⟨i, xs, hie, rfl, rfl, hown, hx, hnx, hxl⟩ := hrel
      have Hi := hid hie
      clear hown1 hgrow1
      by_cases hlt : i < m
      · obtain ⟨gi', e1, hgi, hic⟩ := hsome _ rfl
        cases e1
        have hc1 : wr.cell? ⟨gi, i, none⟩ = some (.int .i64 (its.getD i 0)) := (hnx.cell (by exact hgi)).trans (hic i hlt)
        generalize hX : its.getD i 0 = x at *
        have HX := hid hX
        have hroom : xs.length + 1 ≤ m / 2 := by omega
        clear hX hic hie
        go_wp2_with (at_builtin; refine wpList_append_fits _ rfl (.tmp 37) (.tmp 42) 28 rfl w.heap.size 3 i0 1 Tryz.underlying28 hi0 hz1 w.heap.size xs.length (m / 2) _ rfl (hown.alloc _) ⟨wr.heap.size, 0, none⟩ 1 1 [.int .i64 x] rfl rfl (one_new _ _ _) (one_cell _ _) hroom ?_; intro w1 hown1 hgrow1)
        go_roundw
        case rel =>
          rw [ints_snoc] at hown1
          refine ⟨i + 2, xs ++ [x], by have := Hi.out; simp; omega, by go_num, by simp, by simpa using hown1, up_step HM.out hlt HX.out hx.out, (hnx.alloc hnx.size _).grown hgrow1 (by simp; have := hnx.size; omega) (fun k hk => by cases hk; exact Nat.le_refl _), by simpa using hroom⟩
        case measure => simp [intOf]; omega
      · have HU : Hid (xs = upOf its coin) := up_end HM.out hlt hx.out
        have HUI : Hid (Ints wr (.slice (some ⟨w.heap.size, 0, none⟩) xs.length (m / 2)) xs) := Ints.of hown
        have HII : Hid (Ints wr (.slice (some ⟨gi, 0, none⟩) m ci) its) := HIts.out.below hnx
        have HS1 : Hid (SkSt F B b k lo hi L w0 wr) := HST.out.below hBw hnx
        have hBr : B ≤ wr.heap.size := by have := hnx.size; omega
        clear hown hx hie hnx hsome hnone HIts HST c0 c1 c2 c3 fz e0 hBg
        obtain ⟨g1, cap1, vs1, hB1, hb1, hL1, hbel1⟩ := HS1.out
        obtain ⟨f0, f1, f2, f3, fz⟩ := blk4 hb1
        obtain ⟨i1, hi1, hy0, hy1, hy2⟩ := info_parts Tryz.infoLevel
        rw [← HN.out] at f1
        have HG1 : Hid (B ≤ g1 ∧ wr.heap[b]? = some (skBlock k g1 L.length cap1 lo hi) ∧ LvAt F wr g1 cap1 vs1 L ∧ Below B w0 wr) := ⟨hB1, hb1, hL1, hbel1⟩
        have HR1 : Hid (wr.ownsRow B 140 2 (.slice (some ⟨g1, 0, none⟩) n cap1) n (lvCells vs1 L)) := by rw [HN.out]; exact ownsRow_up hL1.row hB1
        clear hb1 hL1 hbel1
        go_upto_if 51 with fail
        go_cut [] from 11 (fun wc => SkSt F B b k lo hi (grow1 L h) w0 wc ∧ Ints wc (.slice (some ⟨w.heap.size, 0, none⟩) xs.length (m / 2)) xs ∧ Ints wc (.slice (some ⟨gi, 0, none⟩) m ci) its ∧ B ≤ wc.heap.size)
        case first =>
          by_cases hgr : h + 1 = n
          · have hgr' : ((h : Int) + 1 == (n : Int)) = true := by simp; omega
            go_wp2_with (at_builtin; refine wpList_append_lies _ rfl (.tmp 56) (.tmp 58) 62 rfl B 140 i1 (.agg #[.slice none 0 0, .int .i64 0]) 2 32 Tryz.underlying62 hi1 hy0 hy1 hy2 rfl (by decide) (.slice (some ⟨g1, 0, none⟩) n cap1) n (lvCells vs1 L) rfl (HR1.out.alloc _) ⟨wr.heap.size, 0, none⟩ 1 1 [.slice none 0 0, .int .i64 0] rfl rfl (two_new _ _ _ _) (by intro u hu; simp at hu; rcases hu with rfl | rfl <;> rfl) (by decide) (by unfold maxLen; omega) (by omega) (by simp; omega) (wr.heap.size + 1) (by simp) ?_; intro g2 cap2 w1 hown1 hgrow1 hat1 hlt1; have hq := grow_blk HG1.out.2.1 hgrow1 (HG1.out.2.2.1.ne HG1.out.2.1 (by decide)); obtain ⟨q0, q1, q2, q3, qz⟩ := blk4 hq; have HQ := hid hq; have HO1 := hid hown1; have HA1 := hid hat1; have HGR := hid hgrow1; clear hq hown1 hat1 hgrow1)
            go_meet
            have ho := HO1.out
            rw [HN.out] at ho
            have hst2 := grow_st HG1.out.1 HG1.out.2.1 HG1.out.2.2.1 HG1.out.2.2.2 hBb hBr ho HGR.out HA1.out
            rw [← HN.out] at hst2
            refine ⟨?_, HUI.out.kept hst2.2, HII.out.kept hst2.2, ?_⟩
            · rw [grow1, if_pos (by rw [← HN.out]; exact hgr)]
              exact hst2.1
            · have := HGR.out.size; simp at this; simp [World.setCell]; omega
          · have hgr' : ((h : Int) + 1 == (n : Int)) = false := by simp; omega
            go_wp2_with fail
            go_meet
            refine ⟨?_, HUI.out, HII.out, hBr⟩
            rw [grow1, if_neg (by rw [← HN.out]; exact hgr)]
            exact HS1.out
        case rest =>
          obtain ⟨hS2, hU2, hI2, hB2⟩ := hcut
          have HL1len : Hid ((grow1 L h).length ≤ 31 ∧ h + 1 < (grow1 L h).length) := by
            unfold grow1 Hid
            split
            · rename_i e; rw [← HN.out] at e; simp; rw [← HN.out]; omega
            · rename_i e; rw [← HN.out] at e ⊢; omega
          have HU2 := hid hU2
          have HI2 := hid hI2
          have HS2 := hid hS2
          obtain ⟨g2, cap2, vs2, hBg2, hb2, hL2, hbel2⟩ := hS2
          have HP2 : Hid (B ≤ g2 ∧ wc.heap[b]? = some (skBlock k g2 (grow1 L h).length cap2 lo hi) ∧ LvAt F wc g2 cap2 vs2 (grow1 L h) ∧ Below B w0 wc) := ⟨hBg2, hb2, hL2, hbel2⟩
          obtain ⟨n2, hn2⟩ : ∃ n2, n2 = (grow1 L h).length := ⟨_, rfl⟩
          have HN2 := hid hn2
          have hn2a : h + 1 < n2 := by rw [hn2]; exact HL1len.out.2
          have hn2b : n2 ≤ 31 := by rw [hn2]; exact HL1len.out.1
          have hLh : h < (grow1 L h).length := by rw [← hn2]; omega
          obtain ⟨f0', f1', f2', f3', fz'⟩ := blk4 hb2
          rw [← hn2] at f1'
          have g0 := hL2.cell0 hLh
          obtain ⟨ao2, ca2, ev2, _⟩ := (hL2.its h hLh).form
          rw [ev2] at g0
          have gz := hL2.free (h * 2)
          have hneb : b ≠ g2 := hL2.ne hb2 (by decide)
          have hItk := hid (hI2.take (k := m % 2) (by omega) HM.out.symm)
          have hIn := hid (Ints.nil wc)
          have hs1 : (0 : Int) ≤ (m : Int) % 2 := by omega
          have hs2 : (m : Int) % 2 ≤ (ci : Int) := by omega
          have hs3 : (0 : Int) ≤ (h : Int) := by omega
          have hs4 : (h : Int) < (n2 : Int) := by omega
          clear hU2 hI2 hb2 hL2 hbel2 hn2 ev2 HG1 HR1 f0 f1 f2 f3 fz HUI HII HS1
          go_upto_region 12 with fail
          go_cut [] from 11 (fun wd => SkSt F B b k lo hi (setItems (grow1 L h) h (its.take (m % 2))) w0 wd ∧ Ints wd (.slice (some ⟨w.heap.size, 0, none⟩) xs.length (m / 2)) xs ∧ B ≤ wd.heap.size)
          case first =>
            go_region_held3 (fun w' => w'.cell? ⟨b, 1, none⟩ = some (.slice (some ⟨g2, 0, none⟩) n2 cap2)) (first | go_keep | exact cell_later hbel1 f1' | exact (cell_set_other hneb).trans (cell_later hbel1 f1'))
              (first | (go_at_call 84; refine (joined_any _ _ [] (its.take (m % 2)) _ ?_ ?_ (by simp) (by simp; omega)).mono ?_; exact hIn.out; exact hItk.out; rintro e w1 ⟨cc1, rfl, hown1, hbel1⟩; have q1 := cell_later hbel1 g0; have q2 := (hbel1.frozen (World.block_lt_of_cell? _ _ g0)).trans gz))
            go_wp2_with fail
            go_meet
            have hX := Ints.of hown1
            rw [jn_nil_left] at hX
            have hst3 := items_st HP2.out.1 HP2.out.2.1 HP2.out.2.2.1 HP2.out.2.2.2 hB2 (undrew hbel1) hX (fun c hc => by simp [Value.ownBlock] at hc; subst hc; exact HF.out _ hB2) hLh
            rw [show (its.take (m % 2)).length = (jn [] (its.take (m % 2))).length by rw [jn_nil_left]] at hst3
            refine ⟨hst3.1, HU2.out.kept hst3.2, ?_⟩
            rw [setCell_size]
            exact Nat.le_trans hB2 hbel1.size
          case rest =>
            obtain ⟨hS3, hU3, hB3⟩ := hcut
            clear HP2 HU2 HI2 HS2 f0' f1' f2' f3' fz' g0 gz hneb hItk hIn hs1 hs2
            generalize hL2e : setItems (grow1 L h) h (its.take (m % 2)) = L2 at *
            have HL2e := hid hL2e
            have hn3 : L2.length = n2 := by rw [← hL2e, setItems_length]; exact HN2.out.symm
            have ht2 : (L2.getD h Lvl.none).times ≤ 1099511627776 := by rw [← hL2e, setItems_times, grow1_at (by rw [← HN.out]; exact hh)]; exact htm
            have HU3 := hid hU3
            obtain ⟨g3, cap3, vs3, hBg3, hb3, hL3, hbel3⟩ := hS3
            have HP3 : Hid (B ≤ g3 ∧ wc.heap[b]? = some (skBlock k g3 L2.length cap3 lo hi) ∧ LvAt F wc g3 cap3 vs3 L2 ∧ Below B w0 wc) := ⟨hBg3, hb3, hL3, hbel3⟩
            have hLh2 : h < L2.length := by rw [hn3]; omega
            obtain ⟨k0, k1, k2, k3, kz⟩ := blk4 hb3
            rw [hn3] at k1
            have g1' := hL3.cell1 hLh2
            have gz1 := hL3.free (h * 2 + 1)
            have HN3 := hid hn3
            generalize ht2e : (L2.getD h Lvl.none).times = t2 at *
            have HT2 := hid ht2e
            clear ht2e hL2e hn3 hU3 hb3 hL3 hbel3
            go_upto_region 14 with fail
            have hst4 := times_st (t := t2 + 1) HP3.out.1 HP3.out.2.1 HP3.out.2.2.1 HP3.out.2.2.2 hLh2
            rw [show ((t2 + 1 : Nat) : Int) = (t2 : Int) + 1 by omega] at hst4
            have hU4 := HU3.out.kept hst4.2
            have hB4 : B ≤ (wc.setCell ⟨g3, h * 2 + 1, none⟩ (.int .i64 ((t2 : Int) + 1))).heap.size := by rw [setCell_size]; exact hB3
            have hS4 := hst4.1
            generalize wc.setCell ⟨g3, h * 2 + 1, none⟩ (.int .i64 ((t2 : Int) + 1)) = wd at *
            clear hst4 HP3 k0 k1 k2 k3 kz g1' gz1 HU3
            generalize hL3e : setTimes L2 h (t2 + 1) = L3 at *
            have HL3e := hid hL3e
            have hn4 : L3.length = n2 := by rw [← hL3e, setTimes_length]; exact HN3.out
            have HN4 := hid hn4
            have HU4 := hid hU4
            obtain ⟨g4, cap4, vs4, hBg4, hb4, hL4, hbel4⟩ := hS4
            have HP4 : Hid (B ≤ g4 ∧ wd.heap[b]? = some (skBlock k g4 L3.length cap4 lo hi) ∧ LvAt F wd g4 cap4 vs4 L3 ∧ Below B w0 wd) := ⟨hBg4, hb4, hL4, hbel4⟩
            have hLh4 : h + 1 < L3.length := by rw [hn4]; omega
            obtain ⟨k0, k1, k2, k3, kz⟩ := blk4 hb4
            rw [hn4] at k1
            have g0 := hL4.cell0 hLh4
            have gz := hL4.free ((h + 1) * 2)
            have hO := hL4.its (h + 1) hLh4
            obtain ⟨ao4, ca4, ev4, _⟩ := hO.form
            rw [ev4] at g0 hO
            have HO := hid hO
            have hneb : b ≠ g4 := hL4.ne hb4 (by decide)
            have hs5 : (0 : Int) ≤ (h : Int) + 1 := by omega
            have hs6 : (h : Int) + 1 < (n2 : Int) := by omega
            have hwr : IntKind.i64.wrap ((h : Int) + 1) = (h : Int) + 1 := by simp [IntKind.wrap, IntKind.bits, IntKind.signed]; omega
            have hlo : (L3.getD (h + 1) Lvl.none).items.length ≤ 1099511627776 := by rw [← hL3e, setTimes_items, ← HL2e.out, setItems_other (by omega)]; exact grow1_items hbd
            generalize hOI : (L3.getD (h + 1) Lvl.none).items = old at *
            have HOI := hid hOI
            generalize hol : old.length = ol at *
            have HOL := hid hol
            have hxb : xs.length ≤ 1099511627776 := by omega
            clear hL3e hn4 hU4 hb4 hL4 hbel4 ev4 hO hOI hol
            go_region_with (first | (go_at_call 84; refine (joined_any _ _ old xs _ ?_ ?_ (by rw [HOL.out]; exact hlo) hxb).mono ?_; exact HO.out; exact HU4.out; rintro e w1 ⟨cc1, rfl, hown1, hbel1⟩; have q1 := cell_later hbel1 g0; have q2 := (hbel1.frozen (World.block_lt_of_cell? _ _ g0)).trans gz; have q3 := cell_later hbel1 k1))
            all_goals
              go_end0
              refine ⟨rfl, ?_⟩
              have hf := (items_st HP4.out.1 HP4.out.2.1 HP4.out.2.2.1 HP4.out.2.2.2 hB4 (undrew hbel1) (Ints.of hown1) (fun c hc => by simp [Value.ownBlock] at hc; subst hc; exact HF.out _ hB4) hLh4).1
              have e : thinL L h coin = setItems L3 (h + 1) (jn old xs) := by
                unfold thinL
                simp only [HIT.out, HM.out, HL2e.out, HT2.out, HL3e.out, HOI.out, ← HU.out]
              rw [e]
              exact hf

end Go.Proofs.YtklicjbpjigfdabGreat
