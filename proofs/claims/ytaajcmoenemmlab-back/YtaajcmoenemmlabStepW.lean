/- DERIVED. The walk of step: a step that lets a number come in. -/
import Derived.Test.YtaajcmoenemmlabWAddW
import Derived.Deep.RegionWith
import Derived.Deep.DrawnRows
namespace Go.Proofs.Ytaajcmoenemmlab
open Go.RowKit
attribute [local go_sem ↓] Go.wp_at_zero Go.wp_at_succ
variable {K : Nat → Prop} {w0 : World}

/-- What the world must be for a step. -/
structure WdOk (W : Wd) : Prop where
  len : W.D.sks.length = 3
  tape : W.D.tape = []
  at_ : W.at_ ≤ 140737488355328
  coins : W.coins.size ≤ 140737488355328
  most : W.most = -1
  used : W.used ≤ 1099511627776
  ins : ∀ i, i < 3 → InOk (W.D.sks.getD i Hd.none) (W.sd i)

def InRange (c : Int) : Prop := -9223372036854775808 ≤ c ∧ c ≤ 9223372036854775807

theorem weightN_bd (c : Int) : 1 ≤ weightN c ∧ weightN c ≤ 268435456 := by
  have := pickN_lt c (n := 268435456) (by omega)
  unfold weightN; omega

set_option maxHeartbeats 2000000 in
set_option maxRecDepth 100000 in
theorem step_any (p d : Nat) (kd A B C : Int) (ps : Nat → Nat) (W : Wd) (w : World) (h : WdSt K w0 w p d 3 ps W) (hok : WdOk W) (hkd : kd ≠ 1) (hA : InRange A) (hC : InRange C) :
    Calls Try.prog 21 #[.pointer (some ⟨p, 0, none⟩), .agg #[.int .i64 kd, .int .i64 A, .int .i64 B, .int .i64 C]] w fun e w' => e = .returned (.bool true) ∧ AddPost K w0 p d 3 (pickN A 3) ps B (weightN C) W w' := by
  have hkd' : (kd == 1) = false := by simpa using hkd
  have hst := h.below ((Below.refl w.heap.size w).alloc (Nat.le_refl _) (.cells #[.int .i64 kd, .int .i64 A, .int .i64 B, .int .i64 C] 39))
  have HP := hid (fun (w' : World) => pick_any A 3 w' hA.1 hA.2 (by omega) (by omega))
  have HW := hid (fun (w' : World) => weight_any C w' hC.1 hC.2)
  have hpl := pickN_lt A (n := 3) (by omega)
  have hwb := weightN_bd C
  have HAD := hid (fun (w' : World) (hb : WdSt K w0 w' p d 3 ps W) => wadd_any p d (pickN A 3) (weightN C) B ps W w' hb hpl hok.len (hok.ins _ hpl) hok.tape hwb.1 hwb.2 hok.at_ hok.coins hok.most hok.used)
  generalize pickN A 3 = a at *
  generalize weightN C = c at *
  have HST := hid hst
  clear h hst hok hkd
  go_enter Try.func21, Try.ntmps21
  go_wp2_with (first | (go_at_call 7; refine (HP.out _).mono ?_; rintro e w' ⟨rfl, hw⟩; obtain rfl := hw.symm))
  go_region_with (first | (go_at_call 30; refine (HW.out _).mono ?_; rintro e w' ⟨rfl, hw⟩; obtain rfl := hw.symm) | (go_at_call 31; refine (HAD.out _ ?_).mono ?_; exact HST.out.drew; rintro e w1 ⟨rfl, hpost⟩))
  all_goals
    have HPO := hid hpost
    clear hpost
    go_wp2_with fail
    go_ret
    exact ⟨rfl, HPO.out⟩

end Go.Proofs.Ytaajcmoenemmlab
