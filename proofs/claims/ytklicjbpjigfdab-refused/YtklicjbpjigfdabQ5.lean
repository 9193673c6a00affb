/- DERIVED. The walks of shapeSound, endsSound and Sound. -/
import Derived.Test.YtklicjbpjigfdabQ4
import Derived.Test.YtklicjbpjigfdabQ2
import Derived.Deep.Cut
import Derived.Deep.CutRange
namespace Go.Proofs.Ytklicjbpjigfdab
open Go.RowKit
variable {F : Nat → Prop}

theorem nsum_bd : ∀ (L : List Lvl), (∀ l ∈ L, l.items.length < 256) → nsum L ≤ 255 * L.length
  | [], _ => by simp [nsum]
  | l :: L, h => by
    have h1 := nsum_bd L (fun x hx => h x (by simp [hx]))
    have h2 := h l (by simp)
    rw [nsum, List.length_cons]; omega
theorem wsum_bd : ∀ (L : List Lvl), (∀ l ∈ L, l.items.length < 256) → wsum L + 255 ≤ 255 * 2 ^ L.length
  | [], _ => by simp [wsum]
  | l :: L, h => by
    have h1 := wsum_bd L (fun x hx => h x (by simp [hx]))
    have h2 := h l (by simp)
    rw [wsum, List.length_cons, Nat.pow_succ]; omega

set_option maxHeartbeats 1600000 in
theorem shapeSound_any (k g cap : Nat) (lo hi : Int) (vs : List Value) (L : List Lvl) (w : World) (hL : LvAt F w g cap vs L) (hk : k < 256) (hlen : L.length < 256) (hit : ∀ l ∈ L, l.items.length < 256) :
    Calls Try.prog 90 #[skVal k g L.length cap lo hi] w fun e w' => e = .returned (.bool (shapeB ⟨k, L, lo, hi⟩)) ∧ Below w.heap.size w w' := by
  have HIT := hid (fun (w' : World) (hb : Below w.heap.size w w') (h29 : L.length ≤ 29) => items_any (F := F) k g cap lo hi vs L w' (hL.below hb) (by omega) (by have := nsum_bd L hit; omega))
  have HCA := hid (fun (w' : World) (hk' : k ≤ 64) (h29 : L.length ≤ 29) => capacity_any k g cap L.length lo hi w' hk' (by omega))
  have HCO := hid (fun (w' : World) (hb : Below w.heap.size w w') (h29 : L.length ≤ 29) => count_any (F := F) k g cap lo hi vs L w' (hL.below hb) (by omega) (by have h1 := wsum_bd L hit; have h2 : 2 ^ L.length ≤ 2 ^ 29 := Nat.pow_le_pow_right (by decide) h29; omega))
  have HSH : Hid (shapeB ⟨k, L, lo, hi⟩ = decide (2 ≤ k ∧ k ≤ 64 ∧ 1 ≤ L.length ∧ L.length ≤ 29 ∧ (1 < L.length → 0 < (L.getD (L.length - 1) Lvl.none).items.length) ∧ nsum L ≤ capSum k L.length ∧ wsum L ≤ 268435456)) := rfl
  have hnb := nsum_bd L hit
  have HWB := hid (wsum_bd L hit)
  have hcb := capSum_bd k L.length
  generalize hn : L.length = n at *
  have HN := hid hn
  have HLV := hid hL
  generalize shapeB ⟨k, L, lo, hi⟩ = sh at *
  clear hn hL hit
  by_cases h1 : k < 2
  · have HF : Hid (sh = false) := by unfold Hid; rw [HSH.out]; exact decide_eq_false (fun h => by omega)
    go_enter Try.func90, Try.ntmps90
    go_wp2
    go_ret
    exact ⟨by rw [HF.out]; rfl, (Below.refl _ _).alloc (Nat.le_refl _) _⟩
  by_cases h2 : 64 < k
  · have HF : Hid (sh = false) := by unfold Hid; rw [HSH.out]; exact decide_eq_false (fun h => by omega)
    go_enter Try.func90, Try.ntmps90
    go_wp2
    go_ret
    exact ⟨by rw [HF.out]; rfl, (Below.refl _ _).alloc (Nat.le_refl _) _⟩
  by_cases h3 : n < 1
  · have HF : Hid (sh = false) := by unfold Hid; rw [HSH.out]; exact decide_eq_false (fun h => by omega)
    go_enter Try.func90, Try.ntmps90
    go_wp2
    go_ret
    exact ⟨by rw [HF.out]; rfl, (Below.refl _ _).alloc (Nat.le_refl _) _⟩
  by_cases h4 : 29 < n
  · have HF : Hid (sh = false) := by unfold Hid; rw [HSH.out]; exact decide_eq_false (fun h => by omega)
    go_enter Try.func90, Try.ntmps90
    go_wp2
    go_ret
    exact ⟨by rw [HF.out]; rfl, (Below.refl _ _).alloc (Nat.le_refl _) _⟩
  have hlt' : n - 1 < L.length := by rw [HN.out]; omega
  obtain ⟨ao, cc, ev⟩ := HLV.out.itemsForm hlt'
  have c0 : w.cell? ⟨g, (n - 1) * 2, none⟩ = some (.slice ao (L.getD (n - 1) Lvl.none).items.length cc) := (HLV.out.cell0 hlt').trans (by rw [ev])
  obtain ⟨d, hd⟩ : ∃ d, n = d + 1 := ⟨n - 1, by omega⟩
  have HD : Hid (n = d + 1) := hd
  have ed : (n : Int) - 1 = (d : Int) := by omega
  have hgz := HLV.out.lt
  rw [show n - 1 = d by omega] at c0 HSH
  generalize (L.getD d Lvl.none).items.length = m at *
  clear ev hd hlt'
  by_cases h5 : 1 < n ∧ m = 0
  · obtain ⟨h5, rfl⟩ := h5
    have HF : Hid (sh = false) := by unfold Hid; rw [HSH.out]; exact decide_eq_false (fun h => by have := h.2.2.2.2.1 (by omega); omega)
    go_enter Try.func90, Try.ntmps90
    go_wp2
    go_ret
    exact ⟨by rw [HF.out]; rfl, (Below.refl _ _).alloc (Nat.le_refl _) _⟩
  have HREST : Hid (∀ (a b : Nat), a = nsum L → b = wsum L → sh = decide (a ≤ capSum k n ∧ b ≤ 268435456)) := fun a b ha hb => by
    rw [HSH.out, ha, hb]
    refine decide_eq_decide.2 ⟨fun h => ⟨h.2.2.2.2.2.1, h.2.2.2.2.2.2⟩, fun h => ⟨by omega, by omega, by omega, by omega, fun h6 => by omega, h.1, h.2⟩⟩
  have htop : (1 < n ∧ ((m : Int) == 0) = false) ∨ ¬ 1 < n := by
    by_cases h6 : 1 < n
    · exact .inl ⟨h6, by simp; omega⟩
    · exact .inr h6
  rcases htop with ⟨h6, h7⟩ | h6
  all_goals
    go_enter Try.func90, Try.ntmps90
    go_wp2_with fail
    refine (HIT.out _ ((Below.refl _ _).alloc (Nat.le_refl _) _) (by omega)).mono ?_
    rintro e w1 ⟨rfl, hb1⟩
    obtain ⟨b0, b1, b2, b3⟩ := box4 hb1
    have hw1 : Below w.heap.size w w1 := ((Below.refl _ _).alloc (Nat.le_refl _) _).trans (hb1.mono (by simp))
    have hz1 : w.heap.size < w1.heap.size := by have := hb1.size; simp at this; omega
    have HW1 := hid hw1
    clear hb1 hw1
    go_wp2_with fail
    refine (HCA.out _ (by omega) (by omega)).mono ?_
    rintro e w2 ⟨rfl, hb2⟩
    have hc2 : capSum k n ≤ 4096 := by have := hcb (by omega); omega
    have HW2 := hid (HW1.out.trans (hb2.mono HW1.out.size))
    have d0 := cell_later hb2 b0
    have d1 := cell_later hb2 b1
    have d2 := cell_later hb2 b2
    have d3 := cell_later hb2 b3
    clear b0 b1 b2 b3 hb2
    have HRS := hid (HREST.out _ _ rfl rfl)
    by_cases h8 : capSum k n < nsum L
    · have HF : Hid (sh = false) := by unfold Hid; rw [HRS.out]; exact decide_eq_false (fun h => by omega)
      generalize capSum k n = cs at *
      generalize nsum L = ns at *
      go_wp2_with fail
      go_ret
      exact ⟨by rw [HF.out]; rfl, HW2.out⟩
    · have HF : Hid (sh = decide ((wsum L : Int) ≤ 268435456)) := by unfold Hid; rw [HRS.out]; refine decide_eq_decide.2 ⟨fun h => by omega, fun h => ⟨by omega, by omega⟩⟩
      generalize capSum k n = cs at *
      generalize nsum L = ns at *
      go_wp2_with fail
      refine (HCO.out _ HW2.out (by omega)).mono ?_
      rintro e w3 ⟨rfl, hb3⟩
      have HW3 := hid (HW2.out.trans (hb3.mono HW2.out.size))
      generalize wsum L = wsm at *
      clear hb3 d0 d1 d2 d3
      go_wp2_with fail
      go_ret
      exact ⟨by rw [HF.out]; rfl, HW3.out⟩

set_option maxHeartbeats 1000000 in
theorem endsSound_any (k g cap : Nat) (lo hi : Int) (vs : List Value) (L : List Lvl) (w : World) (hL : LvAt F w g cap vs L) (hlen : L.length ≤ 64) (hns : nsum L ≤ 1099511627776) :
    Calls Try.prog 93 #[skVal k g L.length cap lo hi] w fun e w' => e = .returned (.bool (endsOK ⟨k, L, lo, hi⟩)) ∧ Below w.heap.size w w' := by
  have HIT := hid (fun (w' : World) (hb : Below w.heap.size w w') => items_any (F := F) k g cap lo hi vs L w' (hL.below hb) (by omega) hns)
  have HTH := hid (fun (w' : World) (hb : Below w.heap.size w w') => wasThinned_any (F := F) k g cap lo hi vs L w' (hL.below hb) hlen)
  have HHA := hid (fun (x : Int) (w' : World) (hb : Below w.heap.size w w') => hasItem_any (F := F) k g cap lo hi x vs L w' (hL.below hb) hlen hns)
  have HEO : Hid (endsOK ⟨k, L, lo, hi⟩ = (decide (nsum L = 0) || thinnedB L || (hasIt lo L && hasIt hi L))) := rfl
  generalize endsOK ⟨k, L, lo, hi⟩ = eo at *
  generalize L.length = n at *
  clear hL
  go_enter Try.func93, Try.ntmps93
  go_wp2_with fail
  refine (HIT.out _ ((Below.refl _ _).alloc (Nat.le_refl _) _)).mono ?_
  rintro e w1 ⟨rfl, hb1⟩
  obtain ⟨b0, b1, b2, b3⟩ := box4 hb1
  have HW1 := hid (((Below.refl _ _).alloc (Nat.le_refl _) _).trans (hb1.mono (by simp)) : Below w.heap.size w w1)
  clear hb1
  by_cases h0 : nsum L = 0
  · have h0' : ((nsum L : Int) == 0) = true := by simp [h0]
    have HF : Hid (eo = true) := by unfold Hid; rw [HEO.out, h0]; simp
    clear h0
    go_wp2_with fail
    go_ret
    exact ⟨by rw [HF.out]; rfl, HW1.out⟩
  · have h0' : ((nsum L : Int) == 0) = false := by simp [h0]
    have HE2 : Hid (eo = (thinnedB L || (hasIt lo L && hasIt hi L))) := by unfold Hid; rw [HEO.out, decide_eq_false h0, Bool.false_or]
    clear h0
    go_wp2_with fail
    refine (HTH.out _ HW1.out).mono ?_
    rintro e w2 ⟨rfl, hb2⟩
    have HW2 := hid (HW1.out.trans (hb2.mono HW1.out.size))
    have d0 := cell_later hb2 b0
    have d1 := cell_later hb2 b1
    have d2 := cell_later hb2 b2
    have d3 := cell_later hb2 b3
    clear b0 b1 b2 b3 hb2
    cases ht : thinnedB L with
    | true =>
      have HF : Hid (eo = true) := by unfold Hid; rw [HE2.out, ht, Bool.true_or]
      go_wp2_with fail
      go_ret
      exact ⟨by rw [HF.out]; rfl, HW2.out⟩
    | false =>
      have HE3 : Hid (eo = (hasIt lo L && hasIt hi L)) := by unfold Hid; rw [HE2.out, ht, Bool.false_or]
      go_wp2_with fail
      refine (HHA.out lo _ HW2.out).mono ?_
      rintro e w3 ⟨rfl, hb3⟩
      have HW3 := hid (HW2.out.trans (hb3.mono HW2.out.size))
      have f0 := cell_later hb3 d0
      have f1 := cell_later hb3 d1
      have f2 := cell_later hb3 d2
      have f3 := cell_later hb3 d3
      clear d0 d1 d2 d3 hb3
      cases hl : hasIt lo L with
      | false =>
        have HF : Hid (eo = false) := by unfold Hid; rw [HE3.out, hl, Bool.false_and]
        go_wp2_with fail
        go_ret
        exact ⟨by rw [HF.out]; rfl, HW3.out⟩
      | true =>
        have HE4 : Hid (eo = hasIt hi L) := by unfold Hid; rw [HE3.out, hl, Bool.true_and]
        go_wp2_with fail
        refine (HHA.out hi _ HW3.out).mono ?_
        rintro e w4 ⟨rfl, hb4⟩
        have HW4 := hid (HW3.out.trans (hb4.mono HW3.out.size))
        clear f0 f1 f2 f3 hb4
        go_wp2_with fail
        go_ret
        exact ⟨by rw [HE4.out]; rfl, HW4.out⟩

end Go.Proofs.Ytklicjbpjigfdab

/- DERIVED. The walk of Sound. -/
namespace Go.Proofs.Ytklicjbpjigfdab
open Go.RowKit
variable {F : Nat → Prop}

/-- What shapeB says. -/
theorem shapeB_iff (s : Sk) : shapeB s = true ↔ (2 ≤ s.k ∧ s.k ≤ 64 ∧ 1 ≤ s.lv.length ∧ s.lv.length ≤ 29 ∧ (1 < s.lv.length → 0 < (s.lv.getD (s.lv.length - 1) Lvl.none).items.length) ∧ nsum s.lv ≤ capSum s.k s.lv.length ∧ wsum s.lv ≤ 268435456) := by
  unfold shapeB; exact decide_eq_true_iff

set_option maxHeartbeats 1000000 in
theorem sound_any (k g cap : Nat) (lo hi : Int) (vs : List Value) (L : List Lvl) (w : World) (hL : LvAt F w g cap vs L) (hk : k < 256) (hlen : L.length < 256) (hit : ∀ l ∈ L, l.items.length < 256) (htm : ∀ j, (L.getD j Lvl.none).times ≤ 549755813888) :
    Calls Try.prog 69 #[skVal k g L.length cap lo hi] w fun e w' => e = .returned (.bool (soundB ⟨k, L, lo, hi⟩)) ∧ Below w.heap.size w w' := by
  have HSB : Hid (soundB ⟨k, L, lo, hi⟩ = (shapeB ⟨k, L, lo, hi⟩ && (timesB k L.length 0 L && (L.all (lvB lo hi) && endsOK ⟨k, L, lo, hi⟩)))) := rfl
  have HSI := hid (shapeB_iff ⟨k, L, lo, hi⟩)
  have HC1 := hid (fun (w' : World) (hb : Below w.heap.size w w') => shapeSound_any (F := F) k g cap lo hi vs L w' (hL.below hb) hk hlen hit)
  have HC2 := hid (fun (h : shapeB ⟨k, L, lo, hi⟩ = true) (w' : World) (hb : Below w.heap.size w w') => timesSound_any (F := F) k g cap lo hi vs L w' (hL.below hb) ((shapeB_iff _).1 h).2.1 ((shapeB_iff _).1 h).2.2.2.1 ((shapeB_iff _).1 h).2.2.2.2.2.2 htm)
  have HC3 := hid (fun (h : shapeB ⟨k, L, lo, hi⟩ = true) (w' : World) (hb : Below w.heap.size w w') => itemsSound_any (F := F) k g cap lo hi vs L w' (hL.below hb) (by have := ((shapeB_iff _).1 h).2.2.2.1; simp only at this; omega) (by have h1 := nsum_le L; have := ((shapeB_iff _).1 h).2.2.2.2.2.2; simp only at this; omega))
  have HC4 := hid (fun (h : shapeB ⟨k, L, lo, hi⟩ = true) (w' : World) (hb : Below w.heap.size w w') => endsSound_any (F := F) k g cap lo hi vs L w' (hL.below hb) (by have := ((shapeB_iff _).1 h).2.2.2.1; simp only at this; omega) (by have h1 := nsum_le L; have := ((shapeB_iff _).1 h).2.2.2.2.2.2; simp only at this; omega))
  generalize soundB ⟨k, L, lo, hi⟩ = sb at *
  generalize shapeB ⟨k, L, lo, hi⟩ = s1 at *
  generalize endsOK ⟨k, L, lo, hi⟩ = s4 at *
  generalize timesB k L.length 0 L = s2 at *
  generalize L.all (lvB lo hi) = s3 at *
  generalize L.length = n at *
  clear hL HSI
  go_enter Try.func69, Try.ntmps69
  go_wp2_with fail
  refine (HC1.out _ ((Below.refl _ _).alloc (Nat.le_refl _) _)).mono ?_
  rintro e w1 ⟨rfl, hb1⟩
  obtain ⟨b0, b1, b2, b3⟩ := box4 hb1
  have HW1 := hid (((Below.refl _ _).alloc (Nat.le_refl _) _).trans (hb1.mono (by simp)) : Below w.heap.size w w1)
  clear hb1
  cases h1 : s1 with
  | false =>
    have HF : Hid (sb = false) := by unfold Hid; rw [HSB.out, h1, Bool.false_and]
    go_wp2_with fail
    go_ret
    exact ⟨by rw [HF.out]; rfl, HW1.out⟩
  | true =>
    have HS2 : Hid (sb = (s2 && (s3 && s4))) := by unfold Hid; rw [HSB.out, h1, Bool.true_and]
    have H1 := hid h1
    clear h1
    go_wp2_with fail
    refine (HC2.out H1.out _ HW1.out).mono ?_
    rintro e w2 ⟨rfl, hb2⟩
    have HW2 := hid (HW1.out.trans (hb2.mono HW1.out.size))
    have d0 := cell_later hb2 b0
    have d1 := cell_later hb2 b1
    have d2 := cell_later hb2 b2
    have d3 := cell_later hb2 b3
    clear b0 b1 b2 b3 hb2
    cases h2 : s2 with
    | false =>
      have HF : Hid (sb = false) := by unfold Hid; rw [HS2.out, h2, Bool.false_and]
      go_wp2_with fail
      go_ret
      exact ⟨by rw [HF.out]; rfl, HW2.out⟩
    | true =>
      have HS3 : Hid (sb = (s3 && s4)) := by unfold Hid; rw [HS2.out, h2, Bool.true_and]
      go_wp2_with fail
      refine (HC3.out H1.out _ HW2.out).mono ?_
      rintro e w3 ⟨rfl, hb3⟩
      have HW3 := hid (HW2.out.trans (hb3.mono HW2.out.size))
      have f0 := cell_later hb3 d0
      have f1 := cell_later hb3 d1
      have f2 := cell_later hb3 d2
      have f3 := cell_later hb3 d3
      clear d0 d1 d2 d3 hb3
      cases h3 : s3 with
      | false =>
        have HF : Hid (sb = false) := by unfold Hid; rw [HS3.out, h3, Bool.false_and]
        go_wp2_with fail
        go_ret
        exact ⟨by rw [HF.out]; rfl, HW3.out⟩
      | true =>
        have HS4 : Hid (sb = s4) := by unfold Hid; rw [HS3.out, h3, Bool.true_and]
        go_wp2_with fail
        refine (HC4.out H1.out _ HW3.out).mono ?_
        rintro e w4 ⟨rfl, hb4⟩
        have HW4 := hid (HW3.out.trans (hb4.mono HW3.out.size))
        clear f0 f1 f2 f3 hb4
        go_wp2_with fail
        go_ret
        exact ⟨by rw [HS4.out]; rfl, HW4.out⟩

end Go.Proofs.Ytklicjbpjigfdab

/- DERIVED. The walk of texts.Write: the sketch's text. -/
namespace Go.Proofs.Ytklicjbpjigfdab
open Go.RowKit
variable {F : Nat → Prop}

/-- Bytes as a text. -/
def txt (bs : List Nat) : ByteArray := ⟨(bs.map UInt8.ofNat).toArray⟩

/-- The two bytes that each text begins with. -/
theorem WrSt.first {w w1 : World} {g cap : Nat} {o : Obj} (hown : w1.ownsRow (w.heap.size + 1) 5 1 (.slice (some ⟨g, 0, none⟩) 2 cap) 2 (Go.Lib.strCells ⟨#[83, 75]⟩)) (hgrow : ((w.alloc o).alloc (.cells #[.slice none 0 0] 122)).grownBy w1 none) :
    WrSt (w.heap.size + 1) (w.heap.size + 1) [83, 75] (w.alloc o) (w1.setCell ⟨w.heap.size + 1, 0, none⟩ (.slice (some ⟨g, 0, none⟩) 2 cap)) := by
  have hb : w1.heap[w.heap.size + 1]? = some (.cells #[.slice none 0 0] 122 (0, 0)) := by
    have := grown_new2' (w := w) hgrow (by simp)
    exact this
  have hne : g ≠ w.heap.size + 1 := by
    intro e
    subst e
    rcases hown.2 with ⟨e', _⟩ | ⟨g', cap', cur, e', _, hh, _⟩
    · cases e'
    · cases e'
      rw [hb] at hh; cases hh
  refine ⟨some ⟨g, 0, none⟩, cap, Nat.le_refl _, ?_, ?_, ?_⟩
  · have := blk_set (i := 0) (.slice (some ⟨g, 0, none⟩) 2 cap) hb
    simpa using this
  · exact ownsRow_block hown (fun b e => by simp [Value.ownBlock] at e; subst e; exact Below.heap_setCell _ _ _ _ hne)
  · refine Below.setCell ?_ (by simp) _
    exact ((Below.refl _ _).alloc (by simp) _).grown hgrow (by simp) (fun k hk => by cases hk)
/-- The sketch that is written is still there. -/
theorem WrSt.box {w wr : World} {a b c d : Value} {e : TypeId} {p : Nat} {cs : List Nat} (h : WrSt (w.heap.size + 1) p cs (w.alloc (.cells #[a, b, c, d] e)) wr) :
    wr.cell? ⟨w.heap.size, 0, none⟩ = some a ∧ wr.cell? ⟨w.heap.size, 1, none⟩ = some b ∧ wr.cell? ⟨w.heap.size, 2, none⟩ = some c ∧ wr.cell? ⟨w.heap.size, 3, none⟩ = some d ∧ Below w.heap.size w wr ∧ w.heap.size + 1 ≤ wr.heap.size := by
  obtain ⟨ao, cc, h1, h2, h3, h4⟩ := h
  have hz := lt_of_blk' h2
  have h5 : Below (w.alloc (.cells #[a, b, c, d] e)).heap.size (w.alloc (.cells #[a, b, c, d] e)) wr := by simpa using h4
  obtain ⟨b0, b1, b2, b3⟩ := box4 h5
  exact ⟨b0, b1, b2, b3, ((Below.refl _ _).alloc (Nat.le_refl _) _).trans (h4.mono (by omega)), by omega⟩

theorem hdrB_step {L : List Lvl} {j : Nat} (h : j < L.length) : hdrB (L.drop j) = leB 1 (L.getD j Lvl.none).items.length ++ (leB 4 (L.getD j Lvl.none).times ++ hdrB (L.drop (j + 1))) := by
  rw [lv_drop L j h, hdrB]
theorem itemsB_step {L : List Lvl} {j : Nat} (h : j < L.length) : itemsB (L.drop j) = numsB (L.getD j Lvl.none).items ++ itemsB (L.drop (j + 1)) := by
  rw [lv_drop L j h, itemsB]
theorem numsB_step {xs : List Int} {j : Nat} (h : j < xs.length) : numsB (xs.drop j) = leB 8 (u64 (xs.getD j 0)) ++ numsB (xs.drop (j + 1)) := by
  rw [List.drop_eq_getElem_cons h, numsB]; simp [List.getD, h]
theorem u64_nat {n : Nat} (h : n < 18446744073709551616) : u64 (n : Int) = n := by unfold u64; omega

/-- The bytes as a text. -/
theorem conv_txt {w : World} {B n c : Nat} {ao : Option Addr} {bs : List Nat} (h : w.ownsRow B 5 1 (.slice ao n c) n (byts bs)) (hb : ∀ x ∈ bs, x < 256) (hn : 0 < n) : (convert 45 9 (.slice ao n c)).run Try.prog w = .ok (.string (txt bs)) w := by
  obtain ⟨hl, _, hf⟩ := byts_form h
  obtain ⟨g, rfl, _, _⟩ := hf 0 hn
  have := run_convert_bytes_back (P := Try.prog) w 45 9 5 ⟨g, 0, none⟩ c (bs.map UInt8.ofNat) Try.underlying45 Try.underlying5 Try.underlying9 (fun j hj => by
    have hj' : j < n := by simpa [hl] using hj
    obtain ⟨g', e, _, hc⟩ := hf j hj'
    cases e
    rw [Addr.add_lit, Nat.zero_add, hc]
    have hjb : j < bs.length := by omega
    have hx := hb _ (List.getElem_mem hjb)
    simp [List.getD, hjb]
    omega)
  rw [List.length_map, hl] at this
  exact this

set_option maxHeartbeats 2000000 in
set_option maxRecDepth 100000 in
theorem write_any (k g cap : Nat) (lo hi : Int) (vs : List Value) (L : List Lvl) (w : World) (hL : LvAt F w g cap vs L) (hk : k ≤ 64) (hlen : L.length ≤ 29) (hws : wsum L ≤ 268435456) (htm : ∀ j, (L.getD j Lvl.none).times ≤ 549755813888) :
    Calls Try.prog 33 #[skVal k g L.length cap lo hi] w fun e w' => e = .returned (.string (txt (writeB ⟨k, L, lo, hi⟩))) ∧ Below w.heap.size w w' := by
  obtain ⟨i0, hi0, hz0, hz1, hz2⟩ := info_parts Try.infoByte
  have hns := nsum_le L
  have HCO := hid (fun (w' : World) (hb : Below w.heap.size w w') => count_any (F := F) k g cap lo hi vs L w' (hL.below hb) (by omega) (by omega))
  have HLV := hid hL
  generalize hn : L.length = n at *
  have HN := hid hn
  clear hL hn
  go_enter Try.func33, Try.ntmps33
  go_upto_region 3 with (first | (at_builtin; refine Go.Lib.wpList_append_own_string _ rfl (.tmp 14) _ 45 9 rfl (w.heap.size + 1) 5 i0 Try.underlying45 Try.underlying9 hi0 hz0 hz1 hz2 (.slice none 0 0) 0 [] rfl (World.ownsRow_nil _ _ _ _) ⟨#[83, 75]⟩ rfl (by decide) (by decide) (by simp) ?_; intro v1 w1 hown1 hgrow1 hz9; clear hz9; obtain ⟨g1, cap1, rfl, hg1, hgl1⟩ := hown1.form (by decide); obtain ⟨q0, qz⟩ := blk1 (grown_new2' (w := w) hgrow1 (by simp [Value.ownBlock]))))
  have HW1 : Hid (WrSt (w.heap.size + 1) (w.heap.size + 1) [83, 75] (w.alloc (.cells #[.int .i64 (k : Int), .slice (some ⟨g, 0, none⟩) n cap, .int .i64 lo, .int .i64 hi] 77)) (w1.setCell ⟨w.heap.size + 1, 0, none⟩ (.slice (some ⟨g1, 0, none⟩) 2 cap1))) := WrSt.first hown1 hgrow1
  clear hown1 hgrow1 hg1 hgl1 q0 qz
  generalize w1.setCell ⟨w.heap.size + 1, 0, none⟩ (.slice (some ⟨g1, 0, none⟩) 2 cap1) = W1 at *
  have HP := hid (fun (x : Int) (m : Nat) (cs : List Nat) (wx : World) (h : WrSt (w.heap.size + 1) (w.heap.size + 1) cs (w.alloc (.cells #[.int .i64 (k : Int), .slice (some ⟨g, 0, none⟩) n cap, .int .i64 lo, .int .i64 hi] 77)) wx) (hm : m ≤ 8) (hl : cs.length ≤ 1099511627776) => tput_any (w.heap.size + 1) (w.heap.size + 1) m x cs _ wx h hm hl)
  obtain ⟨b0, b1, b2, b3, hbw, hwz⟩ := HW1.out.box
  go_wp2_with fail
  refine (HP.out (k : Int) 1 _ _ HW1.out (by decide) (by simp)).mono ?_
  rintro e w2 ⟨rfl, hw2, hk2⟩
  have HW2 := hid hw2
  clear b0 b1 b2 b3 hbw hwz HW1 hw2 hk2
  obtain ⟨b0, b1, b2, b3, hbw, hwz⟩ := HW2.out.box
  go_wp2_with fail
  refine (HP.out (n : Int) 1 _ _ HW2.out (by decide) (by simp [leB])).mono ?_
  rintro e w3 ⟨rfl, hw3, hk3⟩
  have HW3 := hid hw3
  clear b0 b1 b2 b3 hbw hwz HW2 hw3 hk3
  obtain ⟨b0, b1, b2, b3, hbw, hwz⟩ := HW3.out.box
  have HT1 : Hid (([83, 75] ++ leB 1 (u64 (k : Int)) ++ leB 1 (u64 (n : Int))) ++ hdrB L = [83, 75] ++ leB 1 (u64 (k : Int)) ++ leB 1 (u64 (n : Int)) ++ hdrB L) := rfl
  generalize hP1 : [83, 75] ++ leB 1 (u64 (k : Int)) ++ leB 1 (u64 (n : Int)) = P1 at *
  have HP1 := hid hP1
  have hpl : P1.length = 4 := by rw [← hP1]; simp [leB]
  clear hP1
  go_wp2_with fail
  go_loopw [27] (fun si wr => ∃ (j : Nat) (cs : List Nat), j ≤ n ∧ si = .int .i64 j ∧ cs.length = 4 + 5 * j ∧ Hid (cs ++ hdrB (L.drop j) = P1 ++ hdrB L) ∧ Hid (WrSt (w.heap.size + 1) (w.heap.size + 1) cs (w.alloc (.cells #[.int .i64 (k : Int), .slice (some ⟨g, 0, none⟩) n cap, .int .i64 lo, .int .i64 hi] 77)) wr)) (fun si _ => n - (intOf si).toNat)
  case atStart => exact ⟨0, P1, Nat.zero_le _, rfl, by omega, rfl, HW3⟩
  case round =>
    obtain ⟨j, cs, hj, rfl, hcl, Hc, Hw⟩ := hrel
    clear b0 b1 b2 b3 hbw hwz HW3
    obtain ⟨b0, b1, b2, b3, hbw, hwz⟩ := Hw.out.box
    by_cases hlt : j < n
    · have hlt' : j < L.length := by rw [HN.out]; exact hlt
      have hL2 : LvAt F wr g cap vs L := HLV.out.below hbw
      obtain ⟨ao, cc, ev⟩ := hL2.itemsForm hlt'
      have c0 : wr.cell? ⟨g, j * 2, none⟩ = some (.slice ao (L.getD j Lvl.none).items.length cc) := (hL2.cell0 hlt').trans (by rw [ev])
      have c1 : wr.cell? ⟨g, j * 2 + 1, none⟩ = some (.int .i64 ((L.getD j Lvl.none).times : Int)) := hL2.cell1 hlt'
      have HS := hid (hdrB_step hlt')
      clear ev hL2
      have hm := nsum_at hlt'
      have htj := htm j
      generalize (L.getD j Lvl.none).items.length = m at *
      generalize (L.getD j Lvl.none).times = tm at *
      have HWa := hid (Hw.out.below ((Below.refl wr.heap.size wr).alloc (Nat.le_refl _) (.cells #[.slice ao m cc, .int .i64 (tm : Int)] 125)))
      have hlv := heap_alloc_new wr (.cells #[.slice ao m cc, .int .i64 (tm : Int)] 125)
      have HLVA := hid hlv
      clear hlv
      go_wp2_with fail
      refine (HP.out (m : Int) 1 _ _ HWa.out (by decide) (by omega)).mono ?_
      rintro e w4 ⟨rfl, hw4, hk4⟩
      have hlv4 := (hk4.2 _ _ _ _ HLVA.out (by decide) (by decide)).trans HLVA.out
      obtain ⟨l0, l1, lz⟩ := blk2 hlv4
      have HW4 := hid hw4
      clear b0 b1 b2 b3 hbw hwz c0 c1 hw4 hk4 hlv4
      go_wp2_with fail
      refine (HP.out (tm : Int) 4 _ _ HW4.out (by decide) (by simp [leB]; omega)).mono ?_
      rintro e w5 ⟨rfl, hw5, hk5⟩
      have HW5 := hid hw5
      clear hw5 hk5 l0 l1 lz
      go_wp2_with fail
      go_roundw
      case rel =>
        refine ⟨j + 1, _, by omega, by go_num, ?_, ?_, HW5⟩
        · simp [leB]; omega
        · have := Hc.out
          rw [HS.out] at this
          unfold Hid
          rw [← this, u64_nat (n := m) (by omega), u64_nat (n := tm) (by omega)]
          simp only [List.append_assoc]
      case measure => simp [intOf]; omega
    · have HE : Hid (cs = P1 ++ hdrB L) := by
        have := Hc.out
        rw [List.drop_eq_nil_of_le (by rw [HN.out]; omega), hdrB, List.append_nil] at this
        exact this
      have HEN : Hid (endsB ⟨k, L, lo, hi⟩ = if wsum L = 0 then [] else leB 8 (u64 lo) ++ leB 8 (u64 hi)) := rfl
      have hel : (endsB ⟨k, L, lo, hi⟩).length ≤ 16 := by rw [HEN.out]; split <;> simp [leB_length]
      generalize endsB ⟨k, L, lo, hi⟩ = E at *
      go_upto_if 41 with (go_at_call 66; refine (HCO.out _ hbw).mono ?_; rintro e w6 ⟨rfl, hb6⟩)
      have HW6 := hid (Hw.out.below hb6)
      clear b0 b1 b2 b3 hbw hwz hb6 Hc Hw
      obtain ⟨b0, b1, b2, b3, hbw, hwz⟩ := HW6.out.box
      go_cut [] from 27 (fun we => WrSt (w.heap.size + 1) (w.heap.size + 1) (cs ++ E) (w.alloc (.cells #[.int .i64 (k : Int), .slice (some ⟨g, 0, none⟩) n cap, .int .i64 lo, .int .i64 hi] 77)) we)
      case first =>
        by_cases hw0 : 0 < wsum L
        · have hw0' : decide ((0 : Int) < (wsum L : Int)) = true := by simp; omega
          go_wp2_with fail
          refine (HP.out lo 8 _ _ HW6.out (by decide) (by omega)).mono ?_
          rintro e w7 ⟨rfl, hw7, hk7⟩
          have HW7 := hid hw7
          clear b0 b1 b2 b3 hbw hwz hw7 hk7
          obtain ⟨b0, b1, b2, b3, hbw, hwz⟩ := HW7.out.box
          go_wp2_with fail
          refine (HP.out hi 8 _ _ HW7.out (by decide) (by simp [leB_length]; omega)).mono ?_
          rintro e w8 ⟨rfl, hw8, hk8⟩
          have HW8 := hid hw8
          clear hw8 hk8
          go_wp2_with fail
          go_meet
          have := HW8.out
          rw [List.append_assoc] at this
          rw [HEN.out, if_neg (by omega)]
          exact this
        · have hw0' : decide ((0 : Int) < (wsum L : Int)) = false := by simp; omega
          go_wp2_with fail
          go_meet
          rw [HEN.out, if_pos (by omega), List.append_nil]
          exact HW6.out
      case rest =>
      have HW9 := hid hcut
      clear hcut b0 b1 b2 b3 hbw hwz HW6
      obtain ⟨b0, b1, b2, b3, hbw, hwz⟩ := HW9.out.box
      have HT2 : Hid (cs ++ E ++ itemsB L = bodyB ⟨k, L, lo, hi⟩) := by
        unfold Hid bodyB
        rw [HE.out, ← HP1.out, u64_nat (n := k) (by omega), u64_nat (n := n) (by omega)]
        simp only [HN.out, List.append_assoc, endsB]
        rw [HEN.out]
      have hbl : (bodyB ⟨k, L, lo, hi⟩).length ≤ 4294967296 := by
        rw [bodyB_length]
        simp only [HN.out]
        split <;> omega
      have HBB := hid (bodyB_lt ⟨k, L, lo, hi⟩)
      have HWR := hid (writeB_eq ⟨k, L, lo, hi⟩)
      have HWL := hid (writeB_lt ⟨k, L, lo, hi⟩)
      generalize hWB : writeB ⟨k, L, lo, hi⟩ = WB at *
      have HWBE := hid hWB
      clear hWB
      generalize bodyB ⟨k, L, lo, hi⟩ = BB at *
      generalize cs ++ E = P3 at *
      clear HE HEN hel HP1 HCO
      go_wp2_with fail
      go_loopw [51] (fun si wr => ∃ (j : Nat) (ds : List Nat), j ≤ n ∧ si = .int .i64 j ∧ Hid (ds ++ itemsB (L.drop j) = BB) ∧ Hid (WrSt (w.heap.size + 1) (w.heap.size + 1) ds (w.alloc (.cells #[.int .i64 (k : Int), .slice (some ⟨g, 0, none⟩) n cap, .int .i64 lo, .int .i64 hi] 77)) wr)) (fun si _ => n - (intOf si).toNat)
      case atStart => exact ⟨0, P3, Nat.zero_le _, rfl, HT2, HW9⟩
      case round =>
        obtain ⟨j, ds, hj, rfl, Hd, Hw⟩ := hrel
        clear b0 b1 b2 b3 hbw hwz HW9 HT2
        obtain ⟨b0, b1, b2, b3, hbw, hwz⟩ := Hw.out.box
        by_cases hlt : j < n
        · have hlt' : j < L.length := by rw [HN.out]; exact hlt
          have hL2 : LvAt F wr g cap vs L := HLV.out.below hbw
          obtain ⟨ao, cc, ev, _, _, hno, hso⟩ := (HLV.out.its j hlt').form
          have c0 := hL2.cell0 hlt'
          rw [ev] at c0
          have c1 : wr.cell? ⟨g, j * 2 + 1, none⟩ = some (.int .i64 ((L.getD j Lvl.none).times : Int)) := hL2.cell1 hlt'
          have HS := hid (itemsB_step hlt')
          have HDL : Hid (ds.length ≤ BB.length) := by have := congrArg List.length Hd.out; rw [List.length_append] at this; unfold Hid; omega
          have hm := nsum_at hlt'
          clear ev hL2
          generalize (L.getD j Lvl.none).items = its at *
          generalize hmn : its.length = m at *
          have HM := hid hmn
          have HNO := hid hno
          have HSO := hid hso
          have HBW := hid hbw
          generalize (L.getD j Lvl.none).times = tm at *
          have HWa := hid (Hw.out.below ((Below.refl wr.heap.size wr).alloc (Nat.le_refl _) (.cells #[.slice ao m cc, .int .i64 (tm : Int)] 125)))
          have HBA : Hid (Below wr.heap.size wr (wr.alloc (.cells #[.slice ao m cc, .int .i64 (tm : Int)] 125))) := (Below.refl wr.heap.size wr).alloc (Nat.le_refl _) _
          clear hmn hno hso hbw
          go_wp2_with fail
          go_loopw [58] (fun si wz => ∃ (i : Nat) (es : List Nat), i ≤ m ∧ si = .int .i64 i ∧ Hid (es ++ numsB (its.drop i) = ds ++ numsB its) ∧ Hid (WrSt (w.heap.size + 1) (w.heap.size + 1) es (w.alloc (.cells #[.int .i64 (k : Int), .slice (some ⟨g, 0, none⟩) n cap, .int .i64 lo, .int .i64 hi] 77)) wz)) (fun si _ => m - (intOf si).toNat)
          case atStart => exact ⟨0, ds, Nat.zero_le _, rfl, by simp [Hid], HWa⟩
          case round =>
            obtain ⟨i, es, hi', rfl, He, Hz⟩ := hrel
            clear b0 b1 b2 b3 hwz c0 c1
            obtain ⟨b0, b1, b2, b3, hbz, hwz⟩ := Hz.out.box
            by_cases hil : i < m
            · obtain ⟨gi, rfl⟩ : ∃ g, ao = some ⟨g, 0, none⟩ := by
                cases ao with
                | none => have := (HNO.out rfl).1; rw [this] at HM; have := HM.out; simp at this; omega
                | some a => obtain ⟨g, rfl, _⟩ := HSO.out a rfl; exact ⟨g, rfl⟩
              obtain ⟨gi', e1, hgi, hcc⟩ := HSO.out _ rfl
              cases e1
              have hcell : wr.cell? ⟨gi, i, none⟩ = some (.int .i64 (its.getD i 0)) := (hbz.cell hgi).trans (hcc i hil)
              have HS2 := hid (numsB_step (xs := its) (j := i) (by rw [HM.out]; exact hil))
              have hel : es.length ≤ 1099511627776 := by
                have h1 := congrArg List.length He.out
                have h2 := HDL.out
                have h3 := HM.out
                rw [List.length_append, List.length_append, numsB_length, numsB_length] at h1
                omega
              generalize its.getD i 0 = x at *
              clear hcc
              go_wp2_with fail
              refine (HP.out x 8 _ _ Hz.out (by decide) hel).mono ?_
              rintro e w12 ⟨rfl, hw12, hk12⟩
              have HW12 := hid hw12
              clear hw12 hk12 b0 b1 b2 b3 hbz hwz
              go_wp2_with fail
              go_roundw
              case rel =>
                refine ⟨i + 1, _, by omega, by go_num, ?_, HW12⟩
                have := He.out
                rw [HS2.out] at this
                unfold Hid
                rw [← this, List.append_assoc]
              case measure => simp [intOf]; omega
            · have HEE : Hid (es = ds ++ numsB its) := by
                have := He.out
                rw [List.drop_eq_nil_of_le (by rw [HM.out]; omega), numsB, List.append_nil] at this
                exact this
              go_wp2_with fail
              go_roundw
              case rel =>
                refine ⟨j + 1, es, by omega, by go_num, ?_, Hz⟩
                have := Hd.out
                rw [HS.out] at this
                unfold Hid
                rw [HEE.out, ← this, List.append_assoc]
              case measure => simp [intOf]; omega
        · have HE2 : Hid (ds = BB) := by
            have := Hd.out
            rw [List.drop_eq_nil_of_le (by rw [HN.out]; omega), itemsB, List.append_nil] at this
            exact this
          have HWB : Hid (WrSt (w.heap.size + 1) (w.heap.size + 1) BB (w.alloc (.cells #[.int .i64 (k : Int), .slice (some ⟨g, 0, none⟩) n cap, .int .i64 lo, .int .i64 hi] 77)) wr) := by have := Hw.out; rw [HE2.out] at this; exact this
          have hA := ckA_lt BB
          have hC := ckB_lt BB 0 0 (by decide)
          have HCK := hid (check_any _ _ BB _ wr HWB.out HBB.out)
          generalize ckA BB 0 = ca at *
          generalize ckB BB 0 0 = cb at *
          clear b0 b1 b2 b3 hbw hwz Hd Hw HE2
          go_wp2_with fail
          refine HCK.out.mono ?_
          rintro e w9 ⟨rfl, hw9⟩
          obtain rfl := hw9.symm
          clear HCK
          go_wp2_with fail
          refine (HP.out (ca : Int) 1 _ _ HWB.out (by decide) (by omega)).mono ?_
          rintro e w10 ⟨rfl, hw10, hk10⟩
          have HW10 := hid hw10
          clear hw10 hk10
          go_wp2_with fail
          refine (HP.out (cb : Int) 1 _ _ HW10.out (by decide) (by simp [leB_length]; omega)).mono ?_
          rintro e w11 ⟨rfl, hw11, hk11⟩
          have HF : Hid (WrSt (w.heap.size + 1) (w.heap.size + 1) WB (w.alloc (.cells #[.int .i64 (k : Int), .slice (some ⟨g, 0, none⟩) n cap, .int .i64 lo, .int .i64 hi] 77)) w11) := by
            have := hw11
            rw [u64_nat (n := ca) (by omega), u64_nat (n := cb) (by omega)] at this
            unfold Hid
            rw [HWR.out]
            simpa [leB, Nat.mod_eq_of_lt hA, Nat.mod_eq_of_lt hC] using this
          have hwl : 0 < WB.length := by rw [HWR.out]; simp
          obtain ⟨aof, cf, hpf, hbf, hrf, hlf⟩ := HF.out
          have hcv := conv_txt hrf HWL.out hwl
          obtain ⟨f0, fz⟩ := blk1 hbf
          have HLF := hid (((Below.refl _ _).alloc (Nat.le_refl _) _).trans (hlf.mono (by omega)))
          clear hw11 hk11 hpf hbf hrf hlf
          go_wp2_with fail
          go_ret
          exact ⟨by rw [HWBE.out]; rfl, HLF.out⟩

end Go.Proofs.Ytklicjbpjigfdab

/- DERIVED. Plain mathematics of what comes in with a weight. -/
namespace Go.Proofs.Ytklicjbpjigfdab
open Go.RowKit
variable {F : Nat → Prop}

/-- x comes in with the weight w, from level h on: a step for each bit (at most f). -/
def withFrom (x : Int) : Nat → Nat → Nat → List Lvl → List Lvl
  | 0, _, _, L => L
  | f + 1, w, h, L =>
    if w = 0 then L else
    let L1 := if h = L.length then L ++ [Lvl.none] else L
    let L2 := if w % 2 = 1 then setItems L1 h (jn (L1.getD h Lvl.none).items [x]) else L1
    withFrom x f (w / 2) (h + 1) L2

theorem withFrom_zero (x : Int) (f h : Nat) (L : List Lvl) : withFrom x f 0 h L = L := by cases f <;> simp [withFrom]
/-- The level h is there. -/
def at1 (L : List Lvl) (h : Nat) : List Lvl := if h = L.length then L ++ [Lvl.none] else L
/-- The number comes onto level h, if the bit is there. -/
def bit1 (x : Int) (w : Nat) (L : List Lvl) (h : Nat) : List Lvl := if w % 2 = 1 then setItems L h (jn (L.getD h Lvl.none).items [x]) else L
theorem withFrom_step {x : Int} {f w h : Nat} {L : List Lvl} (hw : 0 < w) : withFrom x (f + 1) w h L = withFrom x f (w / 2) (h + 1) (bit1 x w (at1 L h) h) := by
  rw [withFrom, if_neg (by omega)]; rfl
theorem nsum_snoc (L : List Lvl) : nsum (L ++ [Lvl.none]) = nsum L := by
  induction L with
  | nil => rfl
  | cons l L ih => simp only [List.cons_append, nsum, ih]
theorem at1_nsum (L : List Lvl) (h : Nat) : nsum (at1 L h) = nsum L := by
  unfold at1; split
  · exact nsum_snoc L
  · rfl
theorem setItems_nsum {L : List Lvl} {h : Nat} {X : List Int} (hh : h < L.length) : nsum (setItems L h X) + (L.getD h Lvl.none).items.length = nsum L + X.length := by
  induction L generalizing h with
  | nil => simp at hh
  | cons l L ih =>
    cases h with
    | zero => simp [setItems, nsum]; omega
    | succ h =>
      have := ih (h := h) (by simpa using hh)
      simp only [setItems, List.getD_cons_succ, List.set_cons_succ, nsum] at this ⊢
      omega
theorem bit1_nsum {x : Int} {w h : Nat} {L : List Lvl} (hh : h < L.length) : nsum (bit1 x w L h) ≤ nsum L + 1 := by
  unfold bit1; split
  · have := setItems_nsum (X := jn (L.getD h Lvl.none).items [x]) hh
    rw [jn_length] at this; simp at this; simp; omega
  · omega
theorem bit1_length (x : Int) (w h : Nat) (L : List Lvl) : (bit1 x w L h).length = L.length := by
  unfold bit1; split
  · exact setItems_length _ _ _
  · rfl

/-- A sketch that was just laid into a variable. -/
theorem SkSt.laid {B k g cap : Nat} {lo hi : Int} {vs : List Value} {L : List Lvl} {w w1 : World} (hg : B ≤ g) (hL : LvAt F w1 g cap vs L) (hb : Below B w w1) (hB : B ≤ w1.heap.size) : SkSt F B w1.heap.size k lo hi L w (w1.alloc (skBlock k g L.length cap lo hi)) :=
  ⟨g, cap, vs, hg, heap_alloc_new _ _, hL.below ((Below.refl _ _).alloc (Nat.le_refl _) _), hb.alloc hB _⟩

theorem widen_st (B b k : Nat) (lo hi x y : Int) (L : List Lvl) (w0 w : World) (h : SkSt F B b k lo hi L w0 w) (hB : B ≤ b) (hlen : L.length ≤ 30) (hbd : wsum L ≤ 1099511627776) :
    Calls Try.prog 100 #[.pointer (some ⟨b, 0, none⟩), .int .i64 x, .int .i64 y] w fun e w' => e = .returned (.tuple #[]) ∧ SkSt F B b k (widenLo (wsum L) lo x) (widenHi (wsum L) hi y) L w0 w' := by
  obtain ⟨g, cap, vs, h1, h2, h3, h4⟩ := h
  refine (widen_any B b k g cap lo hi x y vs L w h2 hB h3 hlen hbd).mono ?_
  rintro e w' ⟨rfl, r1, r2, r3⟩
  exact ⟨rfl, g, cap, vs, h1, r1, r2, h4.trans r3⟩

end Go.Proofs.Ytklicjbpjigfdab
