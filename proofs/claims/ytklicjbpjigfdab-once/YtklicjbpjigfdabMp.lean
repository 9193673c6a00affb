/- DERIVED. The walks of Sound's parts over the levels: wasThinned, hasItem, itemsSound, timesSound. -/
import Derived.Test.YtklicjbpjigfdabMn
import Derived.Test.YtklicjbpjigfdabLvW
import Derived.Deep.RegionWith
import Derived.Deep.DrawnRows
namespace Go.Proofs.Ytklicjbpjigfdab
open Go.RowKit
variable {F : Nat → Prop}

theorem thinnedB_step {L : List Lvl} {j : Nat} (h : j < L.length) : thinnedB (L.drop j) = (decide (0 < (L.getD j Lvl.none).times) || thinnedB (L.drop (j + 1))) := by
  rw [lv_drop L j h]; rfl
theorem hasB_step {x : Int} {L : List Lvl} {j : Nat} (h : j < L.length) : hasIt x (L.drop j) = ((L.getD j Lvl.none).items.any (fun y => y == x) || hasIt x (L.drop (j + 1))) := by
  rw [lv_drop L j h]; rfl
theorem any_step {x : Int} {l : List Int} {i : Nat} (h : i < l.length) : (l.drop i).any (fun y => y == x) = ((l.getD i 0 == x) || (l.drop (i + 1)).any (fun y => y == x)) := by
  rw [List.drop_eq_getElem_cons h, List.any_cons]; simp [List.getD, h]

set_option maxHeartbeats 400000 in
theorem wasThinned_any (k g cap : Nat) (lo hi : Int) (vs : List Value) (L : List Lvl) (w : World) (hL : LvAt F w g cap vs L) (hlen : L.length ≤ 64) :
    Calls Try.prog 110 #[skVal k g L.length cap lo hi] w fun e w' => e = .returned (.bool (thinnedB L)) ∧ Below w.heap.size w w' := by
  generalize hn : L.length = n at *
  have HN := hid hn
  clear hn
  go_enter Try.func110, Try.ntmps110
  go_wp2
  go_loopw [8] (fun i wr => ∃ j : Nat, j ≤ n ∧ i = .int .i64 j ∧ Hid (thinnedB (L.drop j) = thinnedB L) ∧ Below w.heap.size w wr) (fun i _ => n - (intOf i).toNat)
  case atStart => exact ⟨0, Nat.zero_le _, rfl, rfl, (Below.refl _ _).alloc (Nat.le_refl _) _⟩
  case round =>
    obtain ⟨j, hj, rfl, Hc, hb⟩ := hrel
    by_cases hlt : j < n
    · have hlt' : j < L.length := by rw [HN.out]; exact hlt
      obtain ⟨ao, cc, ev⟩ := hL.itemsForm hlt'
      have c0 : wr.cell? ⟨g, j * 2, none⟩ = some (.slice ao (L.getD j Lvl.none).items.length cc) := (hb.cell (by exact hL.lt)).trans ((hL.cell0 hlt').trans (by rw [ev]))
      have c1 : wr.cell? ⟨g, j * 2 + 1, none⟩ = some (.int .i64 ((L.getD j Lvl.none).times : Int)) := (hb.cell (by exact hL.lt)).trans (hL.cell1 hlt')
      have HS := hid (thinnedB_step hlt')
      generalize (L.getD j Lvl.none).items.length = m at *
      generalize (L.getD j Lvl.none).times = tm at *
      clear ev
      by_cases ht : 0 < tm
      · have ht' : decide ((0 : Int) < (tm : Int)) = true := by simp; omega
        go_wp2
        go_ret
        refine ⟨?_, hb.alloc hb.size _⟩
        have := Hc.out
        rw [HS.out] at this
        rw [← this]; simp [ht]
      · have ht' : decide ((0 : Int) < (tm : Int)) = false := by simp; omega
        go_wp2
        go_roundw
        case rel =>
          refine ⟨j + 1, by omega, by go_num, ?_, hb.alloc hb.size _⟩
          have := Hc.out
          rw [HS.out] at this
          unfold Hid
          rw [← this]; simp [ht]
        case measure => simp [intOf]; omega
    · have HE : Hid (thinnedB L = false) := by
        have := Hc.out
        rw [List.drop_eq_nil_of_le (by rw [HN.out]; omega)] at this
        exact this.symm
      go_wp2
      go_ret
      exact ⟨by rw [HE.out]; rfl, hb⟩

set_option maxHeartbeats 1000000 in
theorem hasItem_any (k g cap : Nat) (lo hi x : Int) (vs : List Value) (L : List Lvl) (w : World) (hL : LvAt F w g cap vs L) (hlen : L.length ≤ 64) (hns : nsum L ≤ 1099511627776) :
    Calls Try.prog 111 #[skVal k g L.length cap lo hi, .int .i64 x] w fun e w' => e = .returned (.bool (hasIt x L)) ∧ Below w.heap.size w w' := by
  generalize hn : L.length = n at *
  have HN := hid hn
  have HLV := hid hL
  clear hn hL
  go_enter Try.func111, Try.ntmps111
  go_wp2
  go_loopw [12] (fun i wr => ∃ j : Nat, j ≤ n ∧ i = .int .i64 j ∧ Hid (hasIt x (L.drop j) = hasIt x L) ∧ Below w.heap.size w wr) (fun i _ => n - (intOf i).toNat)
  case atStart => exact ⟨0, Nat.zero_le _, rfl, rfl, (Below.refl _ _).alloc (Nat.le_refl _) _⟩
  case round =>
    obtain ⟨j, hj, rfl, Hc, hb⟩ := hrel
    by_cases hlt : j < n
    · have hlt' : j < L.length := by rw [HN.out]; exact hlt
      obtain ⟨ao, cc, ev, _, _, hno, hso⟩ := (HLV.out.its j hlt').form
      have c0 := (hb.cell (p := ⟨g, j * 2, none⟩) (by exact HLV.out.lt)).trans (HLV.out.cell0 hlt')
      rw [ev] at c0
      have c1 : wr.cell? ⟨g, j * 2 + 1, none⟩ = some (.int .i64 ((L.getD j Lvl.none).times : Int)) := (hb.cell (by exact HLV.out.lt)).trans (HLV.out.cell1 hlt')
      have HS := hid (hasB_step (x := x) hlt')
      have hm := nsum_at hlt'
      clear ev
      generalize (L.getD j Lvl.none).items = its at *
      generalize hmn : its.length = m at *
      have HM := hid hmn
      have HNO := hid hno
      have HSO := hid hso
      generalize (L.getD j Lvl.none).times = tm at *
      have HB := hid hb
      clear hmn hno hso
      go_wp2
      go_loop [19] (fun i => ∃ t : Nat, t ≤ m ∧ i = .int .i64 t ∧ Hid ((its.drop t).any (fun y => y == x) = its.any (fun y => y == x))) (fun i => m - (intOf i).toNat)
      case atStart => exact ⟨0, Nat.zero_le _, rfl, rfl⟩
      case round =>
        obtain ⟨t, ht, rfl, Ht⟩ := hrel
        by_cases htl : t < m
        · obtain ⟨gi, rfl⟩ : ∃ g, ao = some ⟨g, 0, none⟩ := by
            cases ao with
            | none => have := (HNO.out rfl).1; rw [this] at HM; have := HM.out; simp at this; omega
            | some a => obtain ⟨g, rfl, _⟩ := HSO.out a rfl; exact ⟨g, rfl⟩
          obtain ⟨gi', e1, hgi, hcc⟩ := HSO.out _ rfl
          cases e1
          have hcell : wr.cell? ⟨gi, t, none⟩ = some (.int .i64 (its.getD t 0)) := (HB.out.cell hgi).trans (hcc t htl)
          have hgz : gi < wr.heap.size := Nat.lt_of_lt_of_le hgi HB.out.size
          have HS2 := hid (any_step (x := x) (l := its) (i := t) (by rw [HM.out]; exact htl))
          generalize its.getD t 0 = y at *
          clear hcc
          by_cases hy : y = x
          · have hy' : (y == x) = true := by simp [hy]
            have HY : Hid (hasIt x L = true) := by
              have h1 := Ht.out; rw [HS2.out, hy'] at h1
              have h2 := Hc.out; rw [HS.out, ← h1] at h2
              unfold Hid; rw [← h2]; simp
            clear hy
            go_wp2
            go_ret
            exact ⟨by rw [HY.out]; rfl, HB.out.alloc HB.out.size _⟩
          · have hy' : (y == x) = false := by simp [hy]
            go_wp2
            go_round
            case rel =>
              refine ⟨t + 1, by omega, by go_num, ?_⟩
              have h1 := Ht.out; rw [HS2.out, hy', Bool.false_or] at h1
              exact h1
            case measure => simp [intOf]; omega
        · have HE : Hid (hasIt x (L.drop (j + 1)) = hasIt x L) := by
            have h1 := Ht.out
            rw [List.drop_eq_nil_of_le (by rw [HM.out]; omega)] at h1
            have h2 := Hc.out
            rw [HS.out, ← h1] at h2
            simpa [Hid] using h2
          go_wp2
          go_roundw
          case rel => exact ⟨j + 1, by omega, by go_num, HE, HB.out.alloc HB.out.size _⟩
          case measure => simp [intOf]; omega
    · have HE : Hid (hasIt x L = false) := by
        have := Hc.out
        rw [List.drop_eq_nil_of_le (by rw [HN.out]; omega)] at this
        exact this.symm
      go_wp2
      go_ret
      exact ⟨by rw [HE.out]; rfl, hb⟩

theorem risesB_iff : ∀ l : List Int, risesB l = true ↔ ∀ t, t + 1 < l.length → l.getD t 0 ≤ l.getD (t + 1) 0
  | [] => by simp [risesB]
  | [_] => by simp [risesB]
  | x :: y :: r => by
    rw [risesB, Bool.and_eq_true, decide_eq_true_eq, risesB_iff (y :: r)]
    constructor
    · rintro ⟨h1, h2⟩ t ht
      cases t with
      | zero => simpa using h1
      | succ t => simpa using h2 t (by simpa using ht)
    · intro h
      exact ⟨by simpa using h 0 (by simp), fun t ht => by simpa using h (t + 1) (by simpa using ht)⟩
/-- Is the item at t as it must be? -/
def ItOk (lo hi : Int) (l : List Int) (t : Nat) : Prop := lo ≤ l.getD t 0 ∧ l.getD t 0 ≤ hi ∧ (0 < t → l.getD (t - 1) 0 ≤ l.getD t 0)
theorem lvB_iff (lo hi : Int) (l : Lvl) : lvB lo hi l = true ↔ ∀ t, t < l.items.length → ItOk lo hi l.items t := by
  unfold lvB ItOk
  rw [Bool.and_eq_true, risesB_iff, List.all_eq_true]
  constructor
  · rintro ⟨h1, h2⟩ t ht
    have h3 := h1 (l.items.getD t 0) (by rw [List.getD_eq_getElem?_getD, List.getElem?_eq_getElem ht]; exact List.getElem_mem ht)
    simp only [Bool.and_eq_true, decide_eq_true_eq] at h3
    refine ⟨h3.1, h3.2, fun h0 => ?_⟩
    have := h2 (t - 1) (by omega)
    rwa [show t - 1 + 1 = t by omega] at this
  · intro h
    refine ⟨fun x hx => ?_, fun t ht => ?_⟩
    · obtain ⟨t, ht, rfl⟩ := List.getElem_of_mem hx
      have := h t ht
      rw [List.getD_eq_getElem?_getD, List.getElem?_eq_getElem ht] at this
      simpa using ⟨this.1, this.2.1⟩
    · have := (h (t + 1) ht).2.2 (by omega)
      simpa using this
theorem allB_step {lo hi : Int} {L : List Lvl} {j : Nat} (h : j < L.length) : (L.drop j).all (lvB lo hi) = (lvB lo hi (L.getD j Lvl.none) && (L.drop (j + 1)).all (lvB lo hi)) := by
  rw [lv_drop L j h, List.all_cons]

set_option maxHeartbeats 1600000 in
theorem itemsSound_any (k g cap : Nat) (lo hi : Int) (vs : List Value) (L : List Lvl) (w : World) (hL : LvAt F w g cap vs L) (hlen : L.length ≤ 64) (hns : nsum L ≤ 1099511627776) :
    Calls Try.prog 92 #[skVal k g L.length cap lo hi] w fun e w' => e = .returned (.bool (L.all (lvB lo hi))) ∧ Below w.heap.size w w' := by
  generalize hn : L.length = n at *
  have HN := hid hn
  have HLV := hid hL
  clear hn hL
  go_enter Try.func92, Try.ntmps92
  go_wp2
  go_loopw [10] (fun i wr => ∃ j : Nat, j ≤ n ∧ i = .int .i64 j ∧ Hid ((L.drop j).all (lvB lo hi) = L.all (lvB lo hi)) ∧ Below (w.alloc (.cells #[.int .i64 (k : Int), .slice (some ⟨g, 0, none⟩) n cap, .int .i64 lo, .int .i64 hi] 77)).heap.size (w.alloc (.cells #[.int .i64 (k : Int), .slice (some ⟨g, 0, none⟩) n cap, .int .i64 lo, .int .i64 hi] 77)) wr) (fun i _ => n - (intOf i).toNat)
  case atStart => exact ⟨0, Nat.zero_le _, rfl, rfl, Below.refl _ _⟩
  case round =>
    obtain ⟨j, hj, rfl, Hc, hbb⟩ := hrel
    obtain ⟨b0, b1, b2, b3⟩ := box4 hbb
    have hb : Below w.heap.size w wr := ((Below.refl _ _).alloc (Nat.le_refl _) _).trans (hbb.mono (by simp))
    have hwz : w.heap.size < wr.heap.size := by have := hbb.size; simp at this; omega
    have HBB := hid hbb
    clear hbb
    by_cases hlt : j < n
    · have hlt' : j < L.length := by rw [HN.out]; exact hlt
      obtain ⟨ao, cc, ev, _, _, hno, hso⟩ := (HLV.out.its j hlt').form
      have c0 := (hb.cell (p := ⟨g, j * 2, none⟩) (by exact HLV.out.lt)).trans (HLV.out.cell0 hlt')
      rw [ev] at c0
      have c1 : wr.cell? ⟨g, j * 2 + 1, none⟩ = some (.int .i64 ((L.getD j Lvl.none).times : Int)) := (hb.cell (by exact HLV.out.lt)).trans (HLV.out.cell1 hlt')
      have HS := hid (allB_step (lo := lo) (hi := hi) hlt')
      have HI := hid (lvB_iff lo hi (L.getD j Lvl.none))
      have hm := nsum_at hlt'
      clear ev
      generalize lvB lo hi (L.getD j Lvl.none) = lb at *
      generalize (L.getD j Lvl.none).items = its at *
      generalize hmn : its.length = m at *
      have HM := hid hmn
      have HNO := hid hno
      have HSO := hid hso
      generalize (L.getD j Lvl.none).times = tm at *
      have HB := hid hb
      clear hmn hno hso hb
      go_wp2
      go_loop [17] (fun i => ∃ t : Nat, t ≤ m ∧ i = .int .i64 t ∧ Hid (∀ s, s < t → ItOk lo hi its s)) (fun i => m - (intOf i).toNat)
      case atStart => exact ⟨0, Nat.zero_le _, rfl, fun s hs => by omega⟩
      case round =>
        obtain ⟨t, ht, rfl, Ht⟩ := hrel
        by_cases htl : t < m
        · obtain ⟨gi, rfl⟩ : ∃ g, ao = some ⟨g, 0, none⟩ := by
            cases ao with
            | none => have := (HNO.out rfl).1; rw [this] at HM; have := HM.out; simp at this; omega
            | some a => obtain ⟨g, rfl, _⟩ := HSO.out a rfl; exact ⟨g, rfl⟩
          obtain ⟨gi', e1, hgi, hcc⟩ := HSO.out _ rfl
          cases e1
          have hcell : wr.cell? ⟨gi, t, none⟩ = some (.int .i64 (its.getD t 0)) := (HB.out.cell hgi).trans (hcc t htl)
          have hgz : gi < wr.heap.size := Nat.lt_of_lt_of_le hgi HB.out.size
          have HBAD : Hid (¬ ItOk lo hi its t → L.all (lvB lo hi) = false) := fun hbad => by
            have h1 : lb = false := by
              cases hlb : lb with
              | false => rfl
              | true => exact absurd (HI.out.1 hlb t htl) hbad
            have h2 := Hc.out
            rw [HS.out, h1, Bool.false_and] at h2
            exact h2.symm
          by_cases hx1 : its.getD t 0 < lo
          · have HY := HBAD.out (fun h => by have := h.1; omega)
            have HY' := hid HY
            clear HY
            generalize its.getD t 0 = x at *
            clear hcc
            go_wp2
            go_ret
            exact ⟨by rw [HY'.out]; rfl, HB.out.alloc HB.out.size _⟩
          · by_cases hx2 : hi < its.getD t 0
            · have HY := HBAD.out (fun h => by have := h.2.1; omega)
              have HY' := hid HY
              clear HY
              generalize its.getD t 0 = x at *
              clear hcc
              go_wp2
              go_ret
              exact ⟨by rw [HY'.out]; rfl, HB.out.alloc HB.out.size _⟩
            · cases t with
              | zero =>
                have HOK : Hid (ItOk lo hi its 0) := ⟨by omega, by omega, fun h => by omega⟩
                generalize its.getD 0 0 = x at *
                clear hcc
                go_wp2
                go_round
                case rel => exact ⟨1, by omega, by go_num, fun s hs => by obtain rfl : s = 0 := (by omega); exact HOK.out⟩
                case measure => simp [intOf]; omega
              | succ s =>
                have hcell2 : wr.cell? ⟨gi, s, none⟩ = some (.int .i64 (its.getD s 0)) := (HB.out.cell hgi).trans (hcc s (by omega))
                have es : ((s : Int) + 1 - 1) = (s : Int) := by omega
                clear hcc
                by_cases hx3 : its.getD (s + 1) 0 < its.getD s 0
                · have HY := HBAD.out (fun h => by have := h.2.2 (by omega); simp only [Nat.add_sub_cancel] at this; omega)
                  have HY' := hid HY
                  clear HY
                  generalize its.getD (s + 1) 0 = x at *
                  generalize its.getD s 0 = y at *
                  go_wp2
                  go_ret
                  exact ⟨by rw [HY'.out]; rfl, HB.out.alloc HB.out.size _⟩
                · have HOK : Hid (ItOk lo hi its (s + 1)) := ⟨by omega, by omega, fun _ => by simp only [Nat.add_sub_cancel]; omega⟩
                  generalize its.getD (s + 1) 0 = x at *
                  generalize its.getD s 0 = y at *
                  go_wp2
                  go_round
                  case rel =>
                    refine ⟨s + 1 + 1, by omega, by go_num, fun r hr => ?_⟩
                    by_cases hrs : r < s + 1
                    · exact Ht.out r hrs
                    · have : r = s + 1 := by omega
                      subst this; exact HOK.out
                  case measure => simp [intOf]; omega
        · have HE : Hid ((L.drop (j + 1)).all (lvB lo hi) = L.all (lvB lo hi)) := by
            have h1 : lb = true := HI.out.2 (fun s hs => Ht.out s (by omega))
            have h2 := Hc.out
            rw [HS.out, h1, Bool.true_and] at h2
            exact h2
          go_wp2
          go_roundw
          case rel => exact ⟨j + 1, by omega, by go_num, HE, HBB.out.alloc HBB.out.size _⟩
          case measure => simp [intOf]; omega
    · have HE : Hid (L.all (lvB lo hi) = true) := by
        have := Hc.out
        rw [List.drop_eq_nil_of_le (by rw [HN.out]; omega)] at this
        exact this.symm
      go_wp2
      go_ret
      exact ⟨by rw [HE.out]; rfl, hb⟩

theorem wsum_dropT : ∀ (L : List Lvl) (j : Nat), 2 ^ j * wsum (L.drop j) ≤ wsum L
  | [], j => by simp [wsum]
  | l :: L, 0 => by simp
  | l :: L, j + 1 => by
    have := wsum_dropT L j
    rw [List.drop_succ_cons, Nat.pow_succ, wsum, Nat.mul_comm (2 ^ j) 2, Nat.mul_assoc]
    omega
theorem timesB_step {k n : Nat} {L : List Lvl} {j : Nat} (h : j < L.length) : timesB k n j (L.drop j) = (decide ((L.getD j Lvl.none).times * 2 ^ j * capOf k (n - 1 - j) ≤ 2 ^ (j + 1) * wsum (L.drop (j + 1))) && timesB k n (j + 1) (L.drop (j + 1))) := by
  rw [lv_drop L j h, timesB]

attribute [local go_sem ↓] Go.wp_at_zero Go.wp_at_succ
set_option maxHeartbeats 1600000 in
theorem timesSound_any (k g cap : Nat) (lo hi : Int) (vs : List Value) (L : List Lvl) (w : World) (hL : LvAt F w g cap vs L) (hk : k ≤ 64) (hlen : L.length ≤ 29) (hws : wsum L ≤ 268435456) (htm : ∀ j, (L.getD j Lvl.none).times ≤ 549755813888) :
    Calls Try.prog 91 #[skVal k g L.length cap lo hi] w fun e w' => e = .returned (.bool (timesB k L.length 0 L)) ∧ Below w.heap.size w w' := by
  have HCO := hid (fun (w' : World) (hb : Below w.heap.size w w') => count_any (F := F) k g cap lo hi vs L w' (hL.below hb) (by omega) (by omega))
  generalize hn : L.length = n at *
  have HN := hid hn
  have HLV := hid hL
  have HTM := hid htm
  clear hn hL htm
  go_enter Try.func91, Try.ntmps91
  go_wp2_with fail
  refine (HCO.out _ ((Below.refl _ _).alloc (Nat.le_refl _) _)).mono ?_
  rintro e w1 ⟨rfl, hb1⟩
  obtain ⟨b0, b1, b2, b3⟩ := box4 hb1
  have HB1 := hid hb1
  clear hb1
  go_wp2_with fail
  go_loopw [3, 4, 12] (fun sa sp si wr => ∃ j A : Nat, j ≤ n ∧ si = .int .i64 j ∧ sp = .int .i64 ((2 ^ j : Nat) : Int) ∧ sa = .int .i64 (A : Int) ∧ Hid (A = 2 ^ j * wsum (L.drop j)) ∧ Hid (timesB k n j (L.drop j) = timesB k n 0 L) ∧ Below (w.alloc (.cells #[.int .i64 (k : Int), .slice (some ⟨g, 0, none⟩) n cap, .int .i64 lo, .int .i64 hi] 77)).heap.size (w.alloc (.cells #[.int .i64 (k : Int), .slice (some ⟨g, 0, none⟩) n cap, .int .i64 lo, .int .i64 hi] 77)) wr) (fun _ _ si _ => n - (intOf si).toNat)
  case atStart => exact ⟨0, wsum L, Nat.zero_le _, rfl, rfl, rfl, by simp [Hid], rfl, HB1.out⟩
  case round =>
    obtain ⟨j, A, hj, rfl, rfl, rfl, HA, Hc, hbb⟩ := hrel
    clear b0 b1 b2 b3 HB1
    obtain ⟨b0, b1, b2, b3⟩ := box4 hbb
    have hb : Below w.heap.size w wr := ((Below.refl _ _).alloc (Nat.le_refl _) _).trans (hbb.mono (by simp))
    have hwz : w.heap.size < wr.heap.size := by have := hbb.size; simp at this; omega
    have HBB := hid hbb
    clear hbb
    by_cases hlt : j < n
    · have hlt' : j < L.length := by rw [HN.out]; exact hlt
      obtain ⟨ao, cc, ev⟩ := HLV.out.itemsForm hlt'
      have c0 : wr.cell? ⟨g, j * 2, none⟩ = some (.slice ao (L.getD j Lvl.none).items.length cc) := (hb.cell (by exact HLV.out.lt)).trans ((HLV.out.cell0 hlt').trans (by rw [ev]))
      have c1 : wr.cell? ⟨g, j * 2 + 1, none⟩ = some (.int .i64 ((L.getD j Lvl.none).times : Int)) := (hb.cell (by exact HLV.out.lt)).trans (HLV.out.cell1 hlt')
      have HS := hid (timesB_step (k := k) (n := n) hlt')
      have hAw := wsum_dropT L j
      have hdr := wsum_drop L j hlt'
      have htj := HTM.out j
      have hpw : 2 ^ j ≤ 268435456 := Nat.pow_le_pow_right (n := 2) (by decide) (show j ≤ 28 by omega)
      have hp0 : 1 ≤ 2 ^ j := Nat.one_le_two_pow
      have HP : Hid (2 ^ (j + 1) = 2 ^ j * 2) := Nat.pow_succ ..
      obtain ⟨d, hd⟩ : ∃ d, n = j + 1 + d := ⟨n - (j + 1), by omega⟩
      have HD : Hid (n = j + 1 + d) := hd
      have hcap := fun w => capacityAt_any k g cap n j d lo hi w hk (by omega) HD.out
      have hcd := capOf_bd k d hk
      have hcd2 := capOf_ge k d
      rw [show n - 1 - j = d by omega] at HS
      rw [HP.out] at HS
      clear ev hd
      generalize htb : timesB k n (j + 1) (L.drop (j + 1)) = tb at *
      have HTB := hid htb
      generalize hRe : wsum (L.drop (j + 1)) = R at *
      have HRE := hid hRe
      clear htb hRe
      generalize (L.getD j Lvl.none).items.length = m at *
      generalize (L.getD j Lvl.none).times = tm at *
      generalize capOf k d = cd at *
      generalize 2 ^ j = p at *
      have hA2 : A = p * m + p * 2 * R := by
        have h1 := HA.out
        rw [hdr, Nat.mul_add, ← Nat.mul_assoc] at h1
        exact h1
      have hAb : A ≤ 268435456 := by have := HA.out; omega
      have HRN : Hid (2 ^ (j + 1) * R = p * 2 * R) := by rw [HP.out]; rfl
      generalize hQe : p * 2 * R = Q at *
      have hnn := mul_nn p m
      have e1 : (A : Int) - (p : Int) * (m : Int) = (Q : Int) := by rw [hA2, Int.natCast_add, Int.natCast_mul]; omega
      have hpm : (p : Int) * (m : Int) ≤ 268435456 := by
        have h3 : (A : Int) = (p : Int) * (m : Int) + (Q : Int) := by rw [hA2, Int.natCast_add, Int.natCast_mul]
        omega
      have hQb : Q ≤ 268435456 := by omega
      have HQ := hid hQe
      have HC := hid hcap
      have HB := hid hb
      clear hdr hAw HA hA2 hQe hcap hb
      by_cases h1 : Q < tm
      · have h1' : decide ((Q : Int) < (tm : Int)) = true := by simp; omega
        have HF : Hid (timesB k n 0 L = false) := by
          have h2 := Hc.out
          rw [HS.out] at h2
          have h3 : ¬ tm * p * cd ≤ Q := by
            intro h4
            have h5 : tm * 1 * 1 ≤ tm * p * cd := Nat.mul_le_mul (Nat.mul_le_mul (Nat.le_refl _) hp0) (by omega)
            omega
          rw [decide_eq_false h3, Bool.false_and] at h2
          exact h2.symm
        go_wp2
        go_ret
        exact ⟨by rw [HF.out]; rfl, HB.out.alloc HB.out.size _⟩
      · have h1' : decide ((Q : Int) < (tm : Int)) = false := by simp; omega
        have hq0 := mul_nn tm p
        have hq1 : (tm : Int) * (p : Int) ≤ 72057594037927936 := mul_bd (a := 268435456) (b := 268435456) (by omega) hpw
        have hz0 : 0 ≤ (tm : Int) * (p : Int) * (cd : Int) := Int.mul_nonneg hq0 (by omega)
        have hz1 : (tm : Int) * (p : Int) * (cd : Int) ≤ 4611686018427387904 := by
          rw [← Int.natCast_mul] at hq1 ⊢
          exact mul_bd (a := 72057594037927936) (b := 64) (by omega) hcd
        have hw1 : IntKind.i64.wrap ((tm : Int) * (p : Int)) = (tm : Int) * (p : Int) := by rw [IntKind.wrap_i64]; omega
        have hw2 : IntKind.i64.wrap ((tm : Int) * (p : Int) * (cd : Int)) = (tm : Int) * (p : Int) * (cd : Int) := by rw [IntKind.wrap_i64]; omega
        have HZ : Hid (((tm * p * cd : Nat) : Int) = (tm : Int) * (p : Int) * (cd : Int)) := by unfold Hid; rw [Int.natCast_mul, Int.natCast_mul]
        go_wp2_with fail
        go_region_with (first | (go_at_call 109; refine (HC.out _).mono ?_; rintro e w' ⟨rfl, hb'⟩; have f1 : w'.cell? ⟨wr.heap.size, 1, none⟩ = some (.int .i64 (tm : Int)) := (hb'.cell (by simp [World.drew])).trans (by simp [go_sem]); have HB3 := hid (below_alloc_drew hb'); clear hb'))
        all_goals
          by_cases h2 : (Q : Int) < (tm : Int) * (p : Int) * (cd : Int)
          · have HF : Hid (timesB k n 0 L = false) := by
              have h3 := Hc.out
              rw [HS.out, decide_eq_false (by have := HZ.out; omega), Bool.false_and] at h3
              exact h3.symm
            go_wp2
            go_ret
            exact ⟨by rw [HF.out]; rfl, HB.out.trans (HB3.out.mono HB.out.size)⟩
          · go_wp2
            go_roundw
            case rel =>
              refine ⟨j + 1, Q, by omega, by go_num, by rw [HP.out]; go_num, rfl, by unfold Hid; rw [HRE.out]; exact HRN.out.symm, ?_, HBB.out.trans (HB3.out.mono HBB.out.size)⟩
              have h3 := Hc.out
              rw [HS.out, decide_eq_true (by have := HZ.out; omega), Bool.true_and] at h3
              rw [← HTB.out] at h3
              exact h3
            case measure => simp [intOf]; omega
    · have HE : Hid (timesB k n 0 L = true) := by
        have := Hc.out
        rw [List.drop_eq_nil_of_le (by rw [HN.out]; omega)] at this
        exact this.symm
      go_wp2
      go_ret
      exact ⟨by rw [HE.out]; rfl, hb⟩

end Go.Proofs.Ytklicjbpjigfdab

/- DERIVED. The walks of shapeSound, endsSound and Sound. -/
namespace Go.Proofs.Ytklicjbpjigfdab
open Go.RowKit
variable {F : Nat → Prop}

theorem nsum_bd : ∀ (L : List Lvl), (∀ l ∈ L, l.items.length < 256) → nsum L ≤ 255 * L.length
  | [], _ => by simp [nsum]
  | l :: L, h => by
    have h1 := nsum_bd L (fun x hx => h x (by simp [hx]))
    have h2 := h l (by simp)
    rw [nsum, List.length_cons]; omega
theorem wsum_bd : ∀ (L : List Lvl), (∀ l ∈ L, l.items.length < 256) → wsum L + 255 ≤ 255 * 2 ^ L.length
  | [], _ => by simp [wsum]
  | l :: L, h => by
    have h1 := wsum_bd L (fun x hx => h x (by simp [hx]))
    have h2 := h l (by simp)
    rw [wsum, List.length_cons, Nat.pow_succ]; omega

set_option maxHeartbeats 1600000 in
theorem shapeSound_any (k g cap : Nat) (lo hi : Int) (vs : List Value) (L : List Lvl) (w : World) (hL : LvAt F w g cap vs L) (hk : k < 256) (hlen : L.length < 256) (hit : ∀ l ∈ L, l.items.length < 256) :
    Calls Try.prog 90 #[skVal k g L.length cap lo hi] w fun e w' => e = .returned (.bool (shapeB ⟨k, L, lo, hi⟩)) ∧ Below w.heap.size w w' := by
  have HIT := hid (fun (w' : World) (hb : Below w.heap.size w w') (h29 : L.length ≤ 29) => items_any (F := F) k g cap lo hi vs L w' (hL.below hb) (by omega) (by have := nsum_bd L hit; omega))
  have HCA := hid (fun (w' : World) (hk' : k ≤ 64) (h29 : L.length ≤ 29) => capacity_any k g cap L.length lo hi w' hk' (by omega))
  have HCO := hid (fun (w' : World) (hb : Below w.heap.size w w') (h29 : L.length ≤ 29) => count_any (F := F) k g cap lo hi vs L w' (hL.below hb) (by omega) (by have h1 := wsum_bd L hit; have h2 : 2 ^ L.length ≤ 2 ^ 29 := Nat.pow_le_pow_right (by decide) h29; omega))
  have HSH : Hid (shapeB ⟨k, L, lo, hi⟩ = decide (2 ≤ k ∧ k ≤ 64 ∧ 1 ≤ L.length ∧ L.length ≤ 29 ∧ (1 < L.length → 0 < (L.getD (L.length - 1) Lvl.none).items.length) ∧ nsum L ≤ capSum k L.length ∧ wsum L ≤ 268435456)) := rfl
  have hnb := nsum_bd L hit
  have HWB := hid (wsum_bd L hit)
  have hcb := capSum_bd k L.length
  generalize hn : L.length = n at *
  have HN := hid hn
  have HLV := hid hL
  generalize shapeB ⟨k, L, lo, hi⟩ = sh at *
  clear hn hL hit
  by_cases h1 : k < 2
  · have HF : Hid (sh = false) := by unfold Hid; rw [HSH.out]; exact decide_eq_false (fun h => by omega)
    go_enter Try.func90, Try.ntmps90
    go_wp2
    go_ret
    exact ⟨by rw [HF.out]; rfl, (Below.refl _ _).alloc (Nat.le_refl _) _⟩
  by_cases h2 : 64 < k
  · have HF : Hid (sh = false) := by unfold Hid; rw [HSH.out]; exact decide_eq_false (fun h => by omega)
    go_enter Try.func90, Try.ntmps90
    go_wp2
    go_ret
    exact ⟨by rw [HF.out]; rfl, (Below.refl _ _).alloc (Nat.le_refl _) _⟩
  by_cases h3 : n < 1
  · have HF : Hid (sh = false) := by unfold Hid; rw [HSH.out]; exact decide_eq_false (fun h => by omega)
    go_enter Try.func90, Try.ntmps90
    go_wp2
    go_ret
    exact ⟨by rw [HF.out]; rfl, (Below.refl _ _).alloc (Nat.le_refl _) _⟩
  by_cases h4 : 29 < n
  · have HF : Hid (sh = false) := by unfold Hid; rw [HSH.out]; exact decide_eq_false (fun h => by omega)
    go_enter Try.func90, Try.ntmps90
    go_wp2
    go_ret
    exact ⟨by rw [HF.out]; rfl, (Below.refl _ _).alloc (Nat.le_refl _) _⟩
  have hlt' : n - 1 < L.length := by rw [HN.out]; omega
  obtain ⟨ao, cc, ev⟩ := HLV.out.itemsForm hlt'
  have c0 : w.cell? ⟨g, (n - 1) * 2, none⟩ = some (.slice ao (L.getD (n - 1) Lvl.none).items.length cc) := (HLV.out.cell0 hlt').trans (by rw [ev])
  obtain ⟨d, hd⟩ : ∃ d, n = d + 1 := ⟨n - 1, by omega⟩
  have HD : Hid (n = d + 1) := hd
  have ed : (n : Int) - 1 = (d : Int) := by omega
  have hgz := HLV.out.lt
  rw [show n - 1 = d by omega] at c0 HSH
  generalize (L.getD d Lvl.none).items.length = m at *
  clear ev hd hlt'
  by_cases h5 : 1 < n ∧ m = 0
  · obtain ⟨h5, rfl⟩ := h5
    have HF : Hid (sh = false) := by unfold Hid; rw [HSH.out]; exact decide_eq_false (fun h => by have := h.2.2.2.2.1 (by omega); omega)
    go_enter Try.func90, Try.ntmps90
    go_wp2
    go_ret
    exact ⟨by rw [HF.out]; rfl, (Below.refl _ _).alloc (Nat.le_refl _) _⟩
  have HREST : Hid (∀ (a b : Nat), a = nsum L → b = wsum L → sh = decide (a ≤ capSum k n ∧ b ≤ 268435456)) := fun a b ha hb => by
    rw [HSH.out, ha, hb]
    refine decide_eq_decide.2 ⟨fun h => ⟨h.2.2.2.2.2.1, h.2.2.2.2.2.2⟩, fun h => ⟨by omega, by omega, by omega, by omega, fun h6 => by omega, h.1, h.2⟩⟩
  have htop : (1 < n ∧ ((m : Int) == 0) = false) ∨ ¬ 1 < n := by
    by_cases h6 : 1 < n
    · exact .inl ⟨h6, by simp; omega⟩
    · exact .inr h6
  rcases htop with ⟨h6, h7⟩ | h6
  all_goals
    go_enter Try.func90, Try.ntmps90
    go_wp2_with fail
    refine (HIT.out _ ((Below.refl _ _).alloc (Nat.le_refl _) _) (by omega)).mono ?_
    rintro e w1 ⟨rfl, hb1⟩
    obtain ⟨b0, b1, b2, b3⟩ := box4 hb1
    have hw1 : Below w.heap.size w w1 := ((Below.refl _ _).alloc (Nat.le_refl _) _).trans (hb1.mono (by simp))
    have hz1 : w.heap.size < w1.heap.size := by have := hb1.size; simp at this; omega
    have HW1 := hid hw1
    clear hb1 hw1
    go_wp2_with fail
    refine (HCA.out _ (by omega) (by omega)).mono ?_
    rintro e w2 ⟨rfl, hb2⟩
    have hc2 : capSum k n ≤ 4096 := by have := hcb (by omega); omega
    have HW2 := hid (HW1.out.trans (hb2.mono HW1.out.size))
    have d0 := cell_later hb2 b0
    have d1 := cell_later hb2 b1
    have d2 := cell_later hb2 b2
    have d3 := cell_later hb2 b3
    clear b0 b1 b2 b3 hb2
    have HRS := hid (HREST.out _ _ rfl rfl)
    by_cases h8 : capSum k n < nsum L
    · have HF : Hid (sh = false) := by unfold Hid; rw [HRS.out]; exact decide_eq_false (fun h => by omega)
      generalize capSum k n = cs at *
      generalize nsum L = ns at *
      go_wp2_with fail
      go_ret
      exact ⟨by rw [HF.out]; rfl, HW2.out⟩
    · have HF : Hid (sh = decide ((wsum L : Int) ≤ 268435456)) := by unfold Hid; rw [HRS.out]; refine decide_eq_decide.2 ⟨fun h => by omega, fun h => ⟨by omega, by omega⟩⟩
      generalize capSum k n = cs at *
      generalize nsum L = ns at *
      go_wp2_with fail
      refine (HCO.out _ HW2.out (by omega)).mono ?_
      rintro e w3 ⟨rfl, hb3⟩
      have HW3 := hid (HW2.out.trans (hb3.mono HW2.out.size))
      generalize wsum L = wsm at *
      clear hb3 d0 d1 d2 d3
      go_wp2_with fail
      go_ret
      exact ⟨by rw [HF.out]; rfl, HW3.out⟩

set_option maxHeartbeats 1000000 in
theorem endsSound_any (k g cap : Nat) (lo hi : Int) (vs : List Value) (L : List Lvl) (w : World) (hL : LvAt F w g cap vs L) (hlen : L.length ≤ 64) (hns : nsum L ≤ 1099511627776) :
    Calls Try.prog 93 #[skVal k g L.length cap lo hi] w fun e w' => e = .returned (.bool (endsOK ⟨k, L, lo, hi⟩)) ∧ Below w.heap.size w w' := by
  have HIT := hid (fun (w' : World) (hb : Below w.heap.size w w') => items_any (F := F) k g cap lo hi vs L w' (hL.below hb) (by omega) hns)
  have HTH := hid (fun (w' : World) (hb : Below w.heap.size w w') => wasThinned_any (F := F) k g cap lo hi vs L w' (hL.below hb) hlen)
  have HHA := hid (fun (x : Int) (w' : World) (hb : Below w.heap.size w w') => hasItem_any (F := F) k g cap lo hi x vs L w' (hL.below hb) hlen hns)
  have HEO : Hid (endsOK ⟨k, L, lo, hi⟩ = (decide (nsum L = 0) || thinnedB L || (hasIt lo L && hasIt hi L))) := rfl
  generalize endsOK ⟨k, L, lo, hi⟩ = eo at *
  generalize L.length = n at *
  clear hL
  go_enter Try.func93, Try.ntmps93
  go_wp2_with fail
  refine (HIT.out _ ((Below.refl _ _).alloc (Nat.le_refl _) _)).mono ?_
  rintro e w1 ⟨rfl, hb1⟩
  obtain ⟨b0, b1, b2, b3⟩ := box4 hb1
  have HW1 := hid (((Below.refl _ _).alloc (Nat.le_refl _) _).trans (hb1.mono (by simp)) : Below w.heap.size w w1)
  clear hb1
  by_cases h0 : nsum L = 0
  · have h0' : ((nsum L : Int) == 0) = true := by simp [h0]
    have HF : Hid (eo = true) := by unfold Hid; rw [HEO.out, h0]; simp
    clear h0
    go_wp2_with fail
    go_ret
    exact ⟨by rw [HF.out]; rfl, HW1.out⟩
  · have h0' : ((nsum L : Int) == 0) = false := by simp [h0]
    have HE2 : Hid (eo = (thinnedB L || (hasIt lo L && hasIt hi L))) := by unfold Hid; rw [HEO.out, decide_eq_false h0, Bool.false_or]
    clear h0
    go_wp2_with fail
    refine (HTH.out _ HW1.out).mono ?_
    rintro e w2 ⟨rfl, hb2⟩
    have HW2 := hid (HW1.out.trans (hb2.mono HW1.out.size))
    have d0 := cell_later hb2 b0
    have d1 := cell_later hb2 b1
    have d2 := cell_later hb2 b2
    have d3 := cell_later hb2 b3
    clear b0 b1 b2 b3 hb2
    cases ht : thinnedB L with
    | true =>
      have HF : Hid (eo = true) := by unfold Hid; rw [HE2.out, ht, Bool.true_or]
      go_wp2_with fail
      go_ret
      exact ⟨by rw [HF.out]; rfl, HW2.out⟩
    | false =>
      have HE3 : Hid (eo = (hasIt lo L && hasIt hi L)) := by unfold Hid; rw [HE2.out, ht, Bool.false_or]
      go_wp2_with fail
      refine (HHA.out lo _ HW2.out).mono ?_
      rintro e w3 ⟨rfl, hb3⟩
      have HW3 := hid (HW2.out.trans (hb3.mono HW2.out.size))
      have f0 := cell_later hb3 d0
      have f1 := cell_later hb3 d1
      have f2 := cell_later hb3 d2
      have f3 := cell_later hb3 d3
      clear d0 d1 d2 d3 hb3
      cases hl : hasIt lo L with
      | false =>
        have HF : Hid (eo = false) := by unfold Hid; rw [HE3.out, hl, Bool.false_and]
        go_wp2_with fail
        go_ret
        exact ⟨by rw [HF.out]; rfl, HW3.out⟩
      | true =>
        have HE4 : Hid (eo = hasIt hi L) := by unfold Hid; rw [HE3.out, hl, Bool.true_and]
        go_wp2_with fail
        refine (HHA.out hi _ HW3.out).mono ?_
        rintro e w4 ⟨rfl, hb4⟩
        have HW4 := hid (HW3.out.trans (hb4.mono HW3.out.size))
        clear f0 f1 f2 f3 hb4
        go_wp2_with fail
        go_ret
        exact ⟨by rw [HE4.out]; rfl, HW4.out⟩

end Go.Proofs.Ytklicjbpjigfdab

/- DERIVED. The walk of Sound. -/
namespace Go.Proofs.Ytklicjbpjigfdab
open Go.RowKit
variable {F : Nat → Prop}

/-- What shapeB says. -/
theorem shapeB_iff (s : Sk) : shapeB s = true ↔ (2 ≤ s.k ∧ s.k ≤ 64 ∧ 1 ≤ s.lv.length ∧ s.lv.length ≤ 29 ∧ (1 < s.lv.length → 0 < (s.lv.getD (s.lv.length - 1) Lvl.none).items.length) ∧ nsum s.lv ≤ capSum s.k s.lv.length ∧ wsum s.lv ≤ 268435456) := by
  unfold shapeB; exact decide_eq_true_iff

set_option maxHeartbeats 1000000 in
theorem sound_any (k g cap : Nat) (lo hi : Int) (vs : List Value) (L : List Lvl) (w : World) (hL : LvAt F w g cap vs L) (hk : k < 256) (hlen : L.length < 256) (hit : ∀ l ∈ L, l.items.length < 256) (htm : ∀ j, (L.getD j Lvl.none).times ≤ 549755813888) :
    Calls Try.prog 69 #[skVal k g L.length cap lo hi] w fun e w' => e = .returned (.bool (soundB ⟨k, L, lo, hi⟩)) ∧ Below w.heap.size w w' := by
  have HSB : Hid (soundB ⟨k, L, lo, hi⟩ = (shapeB ⟨k, L, lo, hi⟩ && (timesB k L.length 0 L && (L.all (lvB lo hi) && endsOK ⟨k, L, lo, hi⟩)))) := rfl
  have HSI := hid (shapeB_iff ⟨k, L, lo, hi⟩)
  have HC1 := hid (fun (w' : World) (hb : Below w.heap.size w w') => shapeSound_any (F := F) k g cap lo hi vs L w' (hL.below hb) hk hlen hit)
  have HC2 := hid (fun (h : shapeB ⟨k, L, lo, hi⟩ = true) (w' : World) (hb : Below w.heap.size w w') => timesSound_any (F := F) k g cap lo hi vs L w' (hL.below hb) ((shapeB_iff _).1 h).2.1 ((shapeB_iff _).1 h).2.2.2.1 ((shapeB_iff _).1 h).2.2.2.2.2.2 htm)
  have HC3 := hid (fun (h : shapeB ⟨k, L, lo, hi⟩ = true) (w' : World) (hb : Below w.heap.size w w') => itemsSound_any (F := F) k g cap lo hi vs L w' (hL.below hb) (by have := ((shapeB_iff _).1 h).2.2.2.1; simp only at this; omega) (by have h1 := nsum_le L; have := ((shapeB_iff _).1 h).2.2.2.2.2.2; simp only at this; omega))
  have HC4 := hid (fun (h : shapeB ⟨k, L, lo, hi⟩ = true) (w' : World) (hb : Below w.heap.size w w') => endsSound_any (F := F) k g cap lo hi vs L w' (hL.below hb) (by have := ((shapeB_iff _).1 h).2.2.2.1; simp only at this; omega) (by have h1 := nsum_le L; have := ((shapeB_iff _).1 h).2.2.2.2.2.2; simp only at this; omega))
  generalize soundB ⟨k, L, lo, hi⟩ = sb at *
  generalize shapeB ⟨k, L, lo, hi⟩ = s1 at *
  generalize endsOK ⟨k, L, lo, hi⟩ = s4 at *
  generalize timesB k L.length 0 L = s2 at *
  generalize L.all (lvB lo hi) = s3 at *
  generalize L.length = n at *
  clear hL HSI
  go_enter Try.func69, Try.ntmps69
  go_wp2_with fail
  refine (HC1.out _ ((Below.refl _ _).alloc (Nat.le_refl _) _)).mono ?_
  rintro e w1 ⟨rfl, hb1⟩
  obtain ⟨b0, b1, b2, b3⟩ := box4 hb1
  have HW1 := hid (((Below.refl _ _).alloc (Nat.le_refl _) _).trans (hb1.mono (by simp)) : Below w.heap.size w w1)
  clear hb1
  cases h1 : s1 with
  | false =>
    have HF : Hid (sb = false) := by unfold Hid; rw [HSB.out, h1, Bool.false_and]
    go_wp2_with fail
    go_ret
    exact ⟨by rw [HF.out]; rfl, HW1.out⟩
  | true =>
    have HS2 : Hid (sb = (s2 && (s3 && s4))) := by unfold Hid; rw [HSB.out, h1, Bool.true_and]
    have H1 := hid h1
    clear h1
    go_wp2_with fail
    refine (HC2.out H1.out _ HW1.out).mono ?_
    rintro e w2 ⟨rfl, hb2⟩
    have HW2 := hid (HW1.out.trans (hb2.mono HW1.out.size))
    have d0 := cell_later hb2 b0
    have d1 := cell_later hb2 b1
    have d2 := cell_later hb2 b2
    have d3 := cell_later hb2 b3
    clear b0 b1 b2 b3 hb2
    cases h2 : s2 with
    | false =>
      have HF : Hid (sb = false) := by unfold Hid; rw [HS2.out, h2, Bool.false_and]
      go_wp2_with fail
      go_ret
      exact ⟨by rw [HF.out]; rfl, HW2.out⟩
    | true =>
      have HS3 : Hid (sb = (s3 && s4)) := by unfold Hid; rw [HS2.out, h2, Bool.true_and]
      go_wp2_with fail
      refine (HC3.out H1.out _ HW2.out).mono ?_
      rintro e w3 ⟨rfl, hb3⟩
      have HW3 := hid (HW2.out.trans (hb3.mono HW2.out.size))
      have f0 := cell_later hb3 d0
      have f1 := cell_later hb3 d1
      have f2 := cell_later hb3 d2
      have f3 := cell_later hb3 d3
      clear d0 d1 d2 d3 hb3
      cases h3 : s3 with
      | false =>
        have HF : Hid (sb = false) := by unfold Hid; rw [HS3.out, h3, Bool.false_and]
        go_wp2_with fail
        go_ret
        exact ⟨by rw [HF.out]; rfl, HW3.out⟩
      | true =>
        have HS4 : Hid (sb = s4) := by unfold Hid; rw [HS3.out, h3, Bool.true_and]
        go_wp2_with fail
        refine (HC4.out H1.out _ HW3.out).mono ?_
        rintro e w4 ⟨rfl, hb4⟩
        have HW4 := hid (HW3.out.trans (hb4.mono HW3.out.size))
        clear f0 f1 f2 f3 hb4
        go_wp2_with fail
        go_ret
        exact ⟨by rw [HS4.out]; rfl, HW4.out⟩

end Go.Proofs.Ytklicjbpjigfdab
