/- DERIVED. The walk of Total. -/
import Derived.Test.YtklicjbpjigfdabTotalW
import Derived.Test.YtklicjbpjigfdabMr
namespace Go.Proofs.Ytklicjbpjigfdab
open Go.RowKit
attribute [local go_sem ↓] Go.wp_at_zero Go.wp_at_succ

set_option maxHeartbeats 2000000 in
set_option maxRecDepth 100000 in
theorem total_walk (t : ByteArray) (w : World) (ht : t.size ≤ 140737488355328) :
    Calls Try.prog 5 #[.string t] w fun e w' => e = .returned (.bool true) ∧ Below w.heap.size w w' := by
  have HNW := hid (new_any 2 w (by decide) (by decide))
  go_enter Try.func5, Try.ntmps5
  go_wp2_with fail
  refine HNW.out.mono ?_
  rintro e w1 ⟨rfl, hd1, hb1⟩
  have HB1 := hid hb1
  have HD1 := hid hd1
  clear hd1 hb1 HNW
  cases hi : isText (bytesOf t) with
  | false =>
    have HDE := hid (decode_no w.heap.size t w1 ht hi)
    have HOP := hid (fun (w' : World) (hb : Below w1.heap.size w1 w') => open_any w.heap.size 2 ⟨2, [], []⟩ w' (HD1.out.below hb) (by decide) (by decide) (by decide) (by decide))
    clear hi
    go_wp2_with fail
    refine HDE.out.mono ?_
    rintro e w2 ⟨rfl, hb2⟩
    have HB2 := hid hb2
    clear hb2 HDE
    go_wp2_with fail
    refine (HOP.out _ HB2.out).mono ?_
    rintro e w3 ⟨rfl, hst⟩
    have HB3 : Hid (Below w.heap.size w w3) := by
      refine (HB1.out.trans (HB2.out.mono HB1.out.size)).trans (hst.bel ?_ (fun b hb => ?_))
      · exact Nat.le_trans HB1.out.size HB2.out.size
      · subst hb; exact Nat.le_refl _
    clear hst HOP
    go_wp2_with fail
    go_ret
    exact ⟨rfl, HB3.out⟩
  | true =>
    obtain ⟨hfit, hwr⟩ := isText_fits (bytesOf_lt t) hi
    have hsb : soundB (toldS (bytesOf t)) = true := by simp only [isText, Bool.and_eq_true] at hi; exact hi.1
    have hok : Hd.Ok ⟨toldS (bytesOf t), false, []⟩ := shape_ok hsb (told_times (bytesOf_lt t))
    have HDE := hid (decode_ok w.heap.size ⟨2, [], []⟩ t w1 HD1.out ht hi (by decide) (by decide))
    have HTX : Hid (txt (writeB (toldS (bytesOf t))) = t) := by unfold Hid; rw [hwr, txt_bytesOf]
    have HSB := hid hsb
    have HOK := hid hok
    generalize toldS (bytesOf t) = s at *
    clear hi hfit hwr hsb hok
    go_wp2_with fail
    refine HDE.out.mono ?_
    rintro e w2 ⟨rfl, hst2⟩
    have HB2 : Hid (Below w.heap.size w w2) := HB1.out.trans (hst2.bel HB1.out.size (fun b hb => by subst hb; exact Nat.le_refl _))
    obtain ⟨F2, hD2, hF2, hfr2⟩ := hst2
    have HF2 : Hid (∀ b, F2 b → w.heap.size ≤ b) := fun b hb => by
      rcases hF2 b hb with h | h
      · subst h; exact Nat.le_refl _
      · exact Nat.le_trans HB1.out.size h
    simp only [List.nil_append] at hD2
    have HEC := hid (fun (w' : World) (hb : Below w2.heap.size w2 w') => encode_any w.heap.size ⟨2, [], [⟨s, false, []⟩]⟩ 0 w' (hD2.below hb) (by simp) HOK.out)
    have HKS := hid (fun (w' : World) (hb : Below w2.heap.size w2 w') => ksound_any w.heap.size ⟨2, [], [⟨s, false, []⟩]⟩ w' (hD2.below hb) (by simp) HOK.out HSB.out)
    have HOP := hid (fun (w' : World) (hb : Below w2.heap.size w2 w') => open_any w.heap.size 64 ⟨2, [], [⟨s, false, []⟩]⟩ w' (hD2.below hb) (by decide) (by decide) (by simp) (by simp))
    have HE1 : Hid ((([⟨s, false, []⟩] : List Hd).getD 0 Hd.none).sk = s) := rfl
    simp only [HE1.out, HTX.out] at HEC
    clear hD2 hF2 hfr2 HDE
    go_wp2_with fail
    refine (HEC.out _ (Below.refl _ _)).mono ?_
    rintro e w3 ⟨rfl, hb3⟩
    have HB3 := hid hb3
    clear hb3 HEC
    go_wp2_with fail
    refine (HKS.out _ HB3.out).mono ?_
    rintro e w4 ⟨rfl, hb4⟩
    have HB4 := hid (HB3.out.trans (hb4.mono HB3.out.size))
    clear hb4 HKS
    go_wp2_with fail
    refine (HOP.out _ HB4.out).mono ?_
    rintro e w5 ⟨rfl, hst⟩
    have HB5 : Hid (Below w.heap.size w w5) := by
      refine (HB2.out.trans (HB4.out.mono HB2.out.size)).trans (hst.bel (Nat.le_trans HB2.out.size HB4.out.size) HF2.out)
    clear hst HOP
    go_wp2_with fail
    go_ret
    exact ⟨rfl, HB5.out⟩

end Go.Proofs.Ytklicjbpjigfdab
