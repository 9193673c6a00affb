/- DERIVED. The walks of shapeSound, endsSound and Sound. -/
import Derived.Test.YtaajcmoenemmlabSoundW
namespace Go.Proofs.Ytaajcmoenemmlab
open Go.RowKit
variable {F : Nat → Prop}

theorem nsum_bd : ∀ (L : List Lvl), (∀ l ∈ L, l.items.length < 256) → nsum L ≤ 255 * L.length
  | [], _ => by simp [nsum]
  | l :: L, h => by
    have h1 := nsum_bd L (fun x hx => h x (by simp [hx]))
    have h2 := h l (by simp)
    rw [nsum, List.length_cons]; omega
theorem wsum_bd : ∀ (L : List Lvl), (∀ l ∈ L, l.items.length < 256) → wsum L + 255 ≤ 255 * 2 ^ L.length
  | [], _ => by simp [wsum]
  | l :: L, h => by
    have h1 := wsum_bd L (fun x hx => h x (by simp [hx]))
    have h2 := h l (by simp)
    rw [wsum, List.length_cons, Nat.pow_succ]; omega

set_option maxHeartbeats 1600000 in
theorem shapeSound_any (k g cap : Nat) (lo hi : Int) (vs : List Value) (L : List Lvl) (w : World) (hL : LvAt F w g cap vs L) (hk : k < 256) (hlen : L.length < 256) (hit : ∀ l ∈ L, l.items.length < 256) :
    Calls Try.prog 61 #[skVal k g L.length cap lo hi] w fun e w' => e = .returned (.bool (shapeB ⟨k, L, lo, hi⟩)) ∧ Below w.heap.size w w' := by
  have HIT := hid (fun (w' : World) (hb : Below w.heap.size w w') (h29 : L.length ≤ 29) => items_any (F := F) k g cap lo hi vs L w' (hL.below hb) (by omega) (by have := nsum_bd L hit; omega))
  have HCA := hid (fun (w' : World) (hk' : k ≤ 64) (h29 : L.length ≤ 29) => capacity_any k g cap L.length lo hi w' hk' (by omega))
  have HCO := hid (fun (w' : World) (hb : Below w.heap.size w w') (h29 : L.length ≤ 29) => count_any (F := F) k g cap lo hi vs L w' (hL.below hb) (by omega) (by have h1 := wsum_bd L hit; have h2 : 2 ^ L.length ≤ 2 ^ 29 := Nat.pow_le_pow_right (by decide) h29; omega))
  have HSH : Hid (shapeB ⟨k, L, lo, hi⟩ = decide (2 ≤ k ∧ k ≤ 64 ∧ 1 ≤ L.length ∧ L.length ≤ 29 ∧ (1 < L.length → 0 < (L.getD (L.length - 1) Lvl.none).items.length) ∧ nsum L ≤ capSum k L.length ∧ wsum L ≤ 268435456)) := rfl
  have hnb := nsum_bd L hit
  have HWB := hid (wsum_bd L hit)
  have hcb := capSum_bd k L.length
  generalize hn : L.length = n at *
  have HN := hid hn
  have HLV := hid hL
  generalize shapeB ⟨k, L, lo, hi⟩ = sh at *
  clear hn hL hit
  by_cases h1 : k < 2
  · have HF : Hid (sh = false) := by unfold Hid; rw [HSH.out]; exact decide_eq_false (fun h => by omega)
    go_enter Try.func61, Try.ntmps61
    go_wp2
    go_ret
    exact ⟨by rw [HF.out]; rfl, (Below.refl _ _).alloc (Nat.le_refl _) _⟩
  by_cases h2 : 64 < k
  · have HF : Hid (sh = false) := by unfold Hid; rw [HSH.out]; exact decide_eq_false (fun h => by omega)
    go_enter Try.func61, Try.ntmps61
    go_wp2
    go_ret
    exact ⟨by rw [HF.out]; rfl, (Below.refl _ _).alloc (Nat.le_refl _) _⟩
  by_cases h3 : n < 1
  · have HF : Hid (sh = false) := by unfold Hid; rw [HSH.out]; exact decide_eq_false (fun h => by omega)
    go_enter Try.func61, Try.ntmps61
    go_wp2
    go_ret
    exact ⟨by rw [HF.out]; rfl, (Below.refl _ _).alloc (Nat.le_refl _) _⟩
  by_cases h4 : 29 < n
  · have HF : Hid (sh = false) := by unfold Hid; rw [HSH.out]; exact decide_eq_false (fun h => by omega)
    go_enter Try.func61, Try.ntmps61
    go_wp2
    go_ret
    exact ⟨by rw [HF.out]; rfl, (Below.refl _ _).alloc (Nat.le_refl _) _⟩
  have hlt' : n - 1 < L.length := by rw [HN.out]; omega
  obtain ⟨ao, cc, ev⟩ := HLV.out.itemsForm hlt'
  have c0 : w.cell? ⟨g, (n - 1) * 2, none⟩ = some (.slice ao (L.getD (n - 1) Lvl.none).items.length cc) := (HLV.out.cell0 hlt').trans (by rw [ev])
  obtain ⟨d, hd⟩ : ∃ d, n = d + 1 := ⟨n - 1, by omega⟩
  have HD : Hid (n = d + 1) := hd
  have ed : (n : Int) - 1 = (d : Int) := by omega
  have hgz := HLV.out.lt
  rw [show n - 1 = d by omega] at c0 HSH
  generalize (L.getD d Lvl.none).items.length = m at *
  clear ev hd hlt'
  by_cases h5 : 1 < n ∧ m = 0
  · obtain ⟨h5, rfl⟩ := h5
    have HF : Hid (sh = false) := by unfold Hid; rw [HSH.out]; exact decide_eq_false (fun h => by have := h.2.2.2.2.1 (by omega); omega)
    go_enter Try.func61, Try.ntmps61
    go_wp2
    go_ret
    exact ⟨by rw [HF.out]; rfl, (Below.refl _ _).alloc (Nat.le_refl _) _⟩
  have HREST : Hid (∀ (a b : Nat), a = nsum L → b = wsum L → sh = decide (a ≤ capSum k n ∧ b ≤ 268435456)) := fun a b ha hb => by
    rw [HSH.out, ha, hb]
    refine decide_eq_decide.2 ⟨fun h => ⟨h.2.2.2.2.2.1, h.2.2.2.2.2.2⟩, fun h => ⟨by omega, by omega, by omega, by omega, fun h6 => by omega, h.1, h.2⟩⟩
  have htop : (1 < n ∧ ((m : Int) == 0) = false) ∨ ¬ 1 < n := by
    by_cases h6 : 1 < n
    · exact .inl ⟨h6, by simp; omega⟩
    · exact .inr h6
  rcases htop with ⟨h6, h7⟩ | h6
  all_goals
    go_enter Try.func61, Try.ntmps61
    go_wp2_with fail
    refine (HIT.out _ ((Below.refl _ _).alloc (Nat.le_refl _) _) (by omega)).mono ?_
    rintro e w1 ⟨rfl, hb1⟩
    obtain ⟨b0, b1, b2, b3⟩ := box4 hb1
    have hw1 : Below w.heap.size w w1 := ((Below.refl _ _).alloc (Nat.le_refl _) _).trans (hb1.mono (by simp))
    have hz1 : w.heap.size < w1.heap.size := by have := hb1.size; simp at this; omega
    have HW1 := hid hw1
    clear hb1 hw1
    go_wp2_with fail
    refine (HCA.out _ (by omega) (by omega)).mono ?_
    rintro e w2 ⟨rfl, hb2⟩
    have hc2 : capSum k n ≤ 4096 := by have := hcb (by omega); omega
    have HW2 := hid (HW1.out.trans (hb2.mono HW1.out.size))
    have d0 := cell_later hb2 b0
    have d1 := cell_later hb2 b1
    have d2 := cell_later hb2 b2
    have d3 := cell_later hb2 b3
    clear b0 b1 b2 b3 hb2
    have HRS := hid (HREST.out _ _ rfl rfl)
    by_cases h8 : capSum k n < nsum L
    · have HF : Hid (sh = false) := by unfold Hid; rw [HRS.out]; exact decide_eq_false (fun h => by omega)
      generalize capSum k n = cs at *
      generalize nsum L = ns at *
      go_wp2_with fail
      go_ret
      exact ⟨by rw [HF.out]; rfl, HW2.out⟩
    · have HF : Hid (sh = decide ((wsum L : Int) ≤ 268435456)) := by unfold Hid; rw [HRS.out]; refine decide_eq_decide.2 ⟨fun h => by omega, fun h => ⟨by omega, by omega⟩⟩
      generalize capSum k n = cs at *
      generalize nsum L = ns at *
      go_wp2_with fail
      refine (HCO.out _ HW2.out (by omega)).mono ?_
      rintro e w3 ⟨rfl, hb3⟩
      have HW3 := hid (HW2.out.trans (hb3.mono HW2.out.size))
      generalize wsum L = wsm at *
      clear hb3 d0 d1 d2 d3
      go_wp2_with fail
      go_ret
      exact ⟨by rw [HF.out]; rfl, HW3.out⟩

set_option maxHeartbeats 1000000 in
theorem endsSound_any (k g cap : Nat) (lo hi : Int) (vs : List Value) (L : List Lvl) (w : World) (hL : LvAt F w g cap vs L) (hlen : L.length ≤ 64) (hns : nsum L ≤ 1099511627776) :
    Calls Try.prog 64 #[skVal k g L.length cap lo hi] w fun e w' => e = .returned (.bool (endsOK ⟨k, L, lo, hi⟩)) ∧ Below w.heap.size w w' := by
  have HIT := hid (fun (w' : World) (hb : Below w.heap.size w w') => items_any (F := F) k g cap lo hi vs L w' (hL.below hb) (by omega) hns)
  have HTH := hid (fun (w' : World) (hb : Below w.heap.size w w') => wasThinned_any (F := F) k g cap lo hi vs L w' (hL.below hb) hlen)
  have HHA := hid (fun (x : Int) (w' : World) (hb : Below w.heap.size w w') => hasItem_any (F := F) k g cap lo hi x vs L w' (hL.below hb) hlen hns)
  have HEO : Hid (endsOK ⟨k, L, lo, hi⟩ = (decide (nsum L = 0) || thinnedB L || (hasIt lo L && hasIt hi L))) := rfl
  generalize endsOK ⟨k, L, lo, hi⟩ = eo at *
  generalize L.length = n at *
  clear hL
  go_enter Try.func64, Try.ntmps64
  go_wp2_with fail
  refine (HIT.out _ ((Below.refl _ _).alloc (Nat.le_refl _) _)).mono ?_
  rintro e w1 ⟨rfl, hb1⟩
  obtain ⟨b0, b1, b2, b3⟩ := box4 hb1
  have HW1 := hid (((Below.refl _ _).alloc (Nat.le_refl _) _).trans (hb1.mono (by simp)) : Below w.heap.size w w1)
  clear hb1
  by_cases h0 : nsum L = 0
  · have h0' : ((nsum L : Int) == 0) = true := by simp [h0]
    have HF : Hid (eo = true) := by unfold Hid; rw [HEO.out, h0]; simp
    clear h0
    go_wp2_with fail
    go_ret
    exact ⟨by rw [HF.out]; rfl, HW1.out⟩
  · have h0' : ((nsum L : Int) == 0) = false := by simp [h0]
    have HE2 : Hid (eo = (thinnedB L || (hasIt lo L && hasIt hi L))) := by unfold Hid; rw [HEO.out, decide_eq_false h0, Bool.false_or]
    clear h0
    go_wp2_with fail
    refine (HTH.out _ HW1.out).mono ?_
    rintro e w2 ⟨rfl, hb2⟩
    have HW2 := hid (HW1.out.trans (hb2.mono HW1.out.size))
    have d0 := cell_later hb2 b0
    have d1 := cell_later hb2 b1
    have d2 := cell_later hb2 b2
    have d3 := cell_later hb2 b3
    clear b0 b1 b2 b3 hb2
    cases ht : thinnedB L with
    | true =>
      have HF : Hid (eo = true) := by unfold Hid; rw [HE2.out, ht, Bool.true_or]
      go_wp2_with fail
      go_ret
      exact ⟨by rw [HF.out]; rfl, HW2.out⟩
    | false =>
      have HE3 : Hid (eo = (hasIt lo L && hasIt hi L)) := by unfold Hid; rw [HE2.out, ht, Bool.false_or]
      go_wp2_with fail
      refine (HHA.out lo _ HW2.out).mono ?_
      rintro e w3 ⟨rfl, hb3⟩
      have HW3 := hid (HW2.out.trans (hb3.mono HW2.out.size))
      have f0 := cell_later hb3 d0
      have f1 := cell_later hb3 d1
      have f2 := cell_later hb3 d2
      have f3 := cell_later hb3 d3
      clear d0 d1 d2 d3 hb3
      cases hl : hasIt lo L with
      | false =>
        have HF : Hid (eo = false) := by unfold Hid; rw [HE3.out, hl, Bool.false_and]
        go_wp2_with fail
        go_ret
        exact ⟨by rw [HF.out]; rfl, HW3.out⟩
      | true =>
        have HE4 : Hid (eo = hasIt hi L) := by unfold Hid; rw [HE3.out, hl, Bool.true_and]
        go_wp2_with fail
        refine (HHA.out hi _ HW3.out).mono ?_
        rintro e w4 ⟨rfl, hb4⟩
        have HW4 := hid (HW3.out.trans (hb4.mono HW3.out.size))
        clear f0 f1 f2 f3 hb4
        go_wp2_with fail
        go_ret
        exact ⟨by rw [HE4.out]; rfl, HW4.out⟩

end Go.Proofs.Ytaajcmoenemmlab
