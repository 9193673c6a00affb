/- DERIVED. The walk of Sound. -/
import Derived.Test.YtaajcmoenemmlabSoundX
namespace Go.Proofs.Ytaajcmoenemmlab
open Go.RowKit
variable {F : Nat → Prop}

/-- What shapeB says. -/
theorem shapeB_iff (s : Sk) : shapeB s = true ↔ (2 ≤ s.k ∧ s.k ≤ 64 ∧ 1 ≤ s.lv.length ∧ s.lv.length ≤ 29 ∧ (1 < s.lv.length → 0 < (s.lv.getD (s.lv.length - 1) Lvl.none).items.length) ∧ nsum s.lv ≤ capSum s.k s.lv.length ∧ wsum s.lv ≤ 268435456) := by
  unfold shapeB; exact decide_eq_true_iff

set_option maxHeartbeats 1000000 in
theorem sound_any (k g cap : Nat) (lo hi : Int) (vs : List Value) (L : List Lvl) (w : World) (hL : LvAt F w g cap vs L) (hk : k < 256) (hlen : L.length < 256) (hit : ∀ l ∈ L, l.items.length < 256) (htm : ∀ j, (L.getD j Lvl.none).times ≤ 549755813888) :
    Calls Try.prog 48 #[skVal k g L.length cap lo hi] w fun e w' => e = .returned (.bool (soundB ⟨k, L, lo, hi⟩)) ∧ Below w.heap.size w w' := by
  have HSB : Hid (soundB ⟨k, L, lo, hi⟩ = (shapeB ⟨k, L, lo, hi⟩ && (timesB k L.length 0 L && (L.all (lvB lo hi) && endsOK ⟨k, L, lo, hi⟩)))) := rfl
  have HSI := hid (shapeB_iff ⟨k, L, lo, hi⟩)
  have HC1 := hid (fun (w' : World) (hb : Below w.heap.size w w') => shapeSound_any (F := F) k g cap lo hi vs L w' (hL.below hb) hk hlen hit)
  have HC2 := hid (fun (h : shapeB ⟨k, L, lo, hi⟩ = true) (w' : World) (hb : Below w.heap.size w w') => timesSound_any (F := F) k g cap lo hi vs L w' (hL.below hb) ((shapeB_iff _).1 h).2.1 ((shapeB_iff _).1 h).2.2.2.1 ((shapeB_iff _).1 h).2.2.2.2.2.2 htm)
  have HC3 := hid (fun (h : shapeB ⟨k, L, lo, hi⟩ = true) (w' : World) (hb : Below w.heap.size w w') => itemsSound_any (F := F) k g cap lo hi vs L w' (hL.below hb) (by have := ((shapeB_iff _).1 h).2.2.2.1; simp only at this; omega) (by have h1 := nsum_le L; have := ((shapeB_iff _).1 h).2.2.2.2.2.2; simp only at this; omega))
  have HC4 := hid (fun (h : shapeB ⟨k, L, lo, hi⟩ = true) (w' : World) (hb : Below w.heap.size w w') => endsSound_any (F := F) k g cap lo hi vs L w' (hL.below hb) (by have := ((shapeB_iff _).1 h).2.2.2.1; simp only at this; omega) (by have h1 := nsum_le L; have := ((shapeB_iff _).1 h).2.2.2.2.2.2; simp only at this; omega))
  generalize soundB ⟨k, L, lo, hi⟩ = sb at *
  generalize shapeB ⟨k, L, lo, hi⟩ = s1 at *
  generalize endsOK ⟨k, L, lo, hi⟩ = s4 at *
  generalize timesB k L.length 0 L = s2 at *
  generalize L.all (lvB lo hi) = s3 at *
  generalize L.length = n at *
  clear hL HSI
  go_enter Try.func48, Try.ntmps48
  go_wp2_with fail
  refine (HC1.out _ ((Below.refl _ _).alloc (Nat.le_refl _) _)).mono ?_
  rintro e w1 ⟨rfl, hb1⟩
  obtain ⟨b0, b1, b2, b3⟩ := box4 hb1
  have HW1 := hid (((Below.refl _ _).alloc (Nat.le_refl _) _).trans (hb1.mono (by simp)) : Below w.heap.size w w1)
  clear hb1
  cases h1 : s1 with
  | false =>
    have HF : Hid (sb = false) := by unfold Hid; rw [HSB.out, h1, Bool.false_and]
    go_wp2_with fail
    go_ret
    exact ⟨by rw [HF.out]; rfl, HW1.out⟩
  | true =>
    have HS2 : Hid (sb = (s2 && (s3 && s4))) := by unfold Hid; rw [HSB.out, h1, Bool.true_and]
    have H1 := hid h1
    clear h1
    go_wp2_with fail
    refine (HC2.out H1.out _ HW1.out).mono ?_
    rintro e w2 ⟨rfl, hb2⟩
    have HW2 := hid (HW1.out.trans (hb2.mono HW1.out.size))
    have d0 := cell_later hb2 b0
    have d1 := cell_later hb2 b1
    have d2 := cell_later hb2 b2
    have d3 := cell_later hb2 b3
    clear b0 b1 b2 b3 hb2
    cases h2 : s2 with
    | false =>
      have HF : Hid (sb = false) := by unfold Hid; rw [HS2.out, h2, Bool.false_and]
      go_wp2_with fail
      go_ret
      exact ⟨by rw [HF.out]; rfl, HW2.out⟩
    | true =>
      have HS3 : Hid (sb = (s3 && s4)) := by unfold Hid; rw [HS2.out, h2, Bool.true_and]
      go_wp2_with fail
      refine (HC3.out H1.out _ HW2.out).mono ?_
      rintro e w3 ⟨rfl, hb3⟩
      have HW3 := hid (HW2.out.trans (hb3.mono HW2.out.size))
      have f0 := cell_later hb3 d0
      have f1 := cell_later hb3 d1
      have f2 := cell_later hb3 d2
      have f3 := cell_later hb3 d3
      clear d0 d1 d2 d3 hb3
      cases h3 : s3 with
      | false =>
        have HF : Hid (sb = false) := by unfold Hid; rw [HS3.out, h3, Bool.false_and]
        go_wp2_with fail
        go_ret
        exact ⟨by rw [HF.out]; rfl, HW3.out⟩
      | true =>
        have HS4 : Hid (sb = s4) := by unfold Hid; rw [HS3.out, h3, Bool.true_and]
        go_wp2_with fail
        refine (HC4.out H1.out _ HW3.out).mono ?_
        rintro e w4 ⟨rfl, hb4⟩
        have HW4 := hid (HW3.out.trans (hb4.mono HW3.out.size))
        clear f0 f1 f2 f3 hb4
        go_wp2_with fail
        go_ret
        exact ⟨by rw [HS4.out]; rfl, HW4.out⟩

end Go.Proofs.Ytaajcmoenemmlab
