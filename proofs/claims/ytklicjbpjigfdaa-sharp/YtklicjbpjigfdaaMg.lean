/- DERIVED. Plain mathematics: if all weighs 1, the spread times K times K is at most 8 times the square of the count. -/
import Derived.Test.YtklicjbpjigfdaaMc
import Derived.Test.YtklicjbpjigfdaaMe
import Derived.Test.YtklicjbpjigfdaaSpareW
import Derived.Deep.Cut
import Derived.Deep.CutRange
namespace Go.Proofs.Ytklicjbpjigfdaa
open Go.RowKit
variable {K : Nat → Prop} {w0 : World}

/-- Each new top level came of more than K items. -/
def Steep (k : Nat) (L : List Lvl) : Prop := L.length ≤ 1 ∨ 2 ^ (L.length - 1) * k ≤ 2 * wsum L
theorem Steep.mono {k k' : Nat} {L : List Lvl} (h : Steep k L) (hk : k' ≤ k) : Steep k' L := by
  rcases h with h | h
  · exact .inl h
  · exact .inr (Nat.le_trans (Nat.mul_le_mul_left _ hk) h)
theorem Steep.merge {k : Nat} {L T : List Lvl} (h : Steep k L) (hT : Steep k T) : Steep k (mergeL L T) := by
  unfold Steep at *
  rw [mergeL_length, mergeL_wsum]
  by_cases e : L.length ≤ T.length
  · rw [Nat.max_eq_right e]; omega
  · rw [Nat.max_eq_left (by omega)]; omega
theorem capOf_zero {k : Nat} (h : 2 ≤ k) : capOf k 0 = k := by
  have h1 := capOf_le k 0 h
  have h2 := capFrom_end (k := k) (t3 := 3 ^ 0) (t2 := 2 ^ 0) (f := k) (c := 2) (by omega)
  change ¬ (capOf k 0 < k ∧ capOf k 0 * 3 ^ 0 < k * 2 ^ 0) at h2
  simp at h2
  omega
theorem Steep.settle {k : Nat} (hk : 2 ≤ k) : ∀ {cs : List Bool} {u : Nat} {L L' : List Lvl} {u' : Nat}, Steep k L → settle k cs u L = some (L', u') → Steep k L' := by
  intro cs
  induction cs with
  | nil => intro u L L' u' h hs; simp only [Go.Proofs.Ytklicjbpjigfdaa.settle] at hs; split at hs <;> simp at hs; rw [← hs.1]; exact h
  | cons c cs ih =>
    intro u L L' u' h hs
    simp only [Go.Proofs.Ytklicjbpjigfdaa.settle] at hs
    split at hs
    · simp at hs; rw [← hs.1]; exact h
    · rename_i r hr
      obtain ⟨h1, _, h3⟩ := toThinL_some hr
      refine ih ?_ hs
      unfold Steep
      rw [thinL_wsum h1, thinL_length]
      split
      · right
        rename_i e
        rw [show L.length - 1 - r = 0 by omega, capOf_zero hk] at h3
        have h4 := wsum_at h1
        have h5 := Nat.mul_le_mul_left (2 ^ r) (Nat.le_of_lt h3)
        rw [Nat.add_sub_cancel, ← e, Nat.pow_succ, Nat.mul_right_comm]
        omega
      · exact h
theorem with_one {x : Int} {L : List Lvl} (h : 1 ≤ L.length) : (withFrom x 29 1 0 L).length = L.length := by
  rw [withFrom_step (by omega), show 1 / 2 = 0 from rfl, withFrom_zero, bit1_length, at1_length, if_neg (by omega)]

theorem cap_ge (k d : Nat) : k * 2 ^ d ≤ capOf k d * 3 ^ d := by
  have h2 := capFrom_end (k := k) (t3 := 3 ^ d) (t2 := 2 ^ d) (f := k) (c := 2) (by omega)
  change ¬ (capOf k d < k ∧ capOf k d * 3 ^ d < k * 2 ^ d) at h2
  by_cases h : capOf k d < k
  · exact Nat.le_of_not_lt (fun h' => h2 ⟨h, h'⟩)
  · exact Nat.mul_le_mul (by omega) (Nat.pow_le_pow_left (by omega) d)
/-- The geometric sum. -/
theorem spread_sum {k : Nat} : ∀ {L : List Lvl}, L ≠ [] → Roomy k L → 2 * (k * 2 ^ L.length * ssum L) + 4 * (3 ^ L.length * wsum L) ≤ 3 * (4 ^ L.length * wsum L)
  | [], h, _ => absurd rfl h
  | [l], _, hr => by
    have h1 := hr.1
    have h2 := capOf_ge k 0
    have h3 : l.times = 0 := by
      have h4 := Nat.mul_le_mul_left l.times h2
      have h5 : l.times * capOf k 0 ≤ 0 := h1
      omega
    simp [ssum, wsum, h3]
    omega
  | l :: m :: L, _, hr => by
    have ih := spread_sum (k := k) (L := m :: L) (by simp) hr.2
    have h1 := hr.1
    generalize hM : m :: L = M at *
    have h2 := cap_ge k M.length
    have h3 : k * 2 ^ M.length * l.times ≤ 2 * (3 ^ M.length * wsum M) := by
      have a := Nat.mul_le_mul_right l.times h2
      have b := Nat.mul_le_mul_right (3 ^ M.length) h1
      calc k * 2 ^ M.length * l.times ≤ capOf k M.length * 3 ^ M.length * l.times := a
        _ = l.times * capOf k M.length * 3 ^ M.length := by grind
        _ ≤ 2 * wsum M * 3 ^ M.length := b
        _ = 2 * (3 ^ M.length * wsum M) := by grind
    have h4 : 3 ^ M.length ≤ 4 ^ M.length := Nat.pow_le_pow_left (by omega) _
    have h5 := Nat.mul_le_mul_right l.items.length h4
    rw [List.length_cons, ssum, wsum, Nat.pow_succ, Nat.pow_succ, Nat.pow_succ]
    generalize 2 ^ M.length = p2 at *
    generalize 3 ^ M.length = p3 at *
    generalize 4 ^ M.length = p4 at *
    generalize ssum M = S at *
    generalize wsum M = w at *
    generalize l.items.length = n at *
    generalize l.times = t at *
    have e1 : k * (p2 * 2) * (t + 4 * S) = 2 * (k * p2 * t) + 8 * (k * p2 * S) := by grind
    have e2 : p3 * 3 * (n + 2 * w) = 3 * (p3 * n) + 6 * (p3 * w) := by grind
    have e3 : p4 * 4 * (n + 2 * w) = 4 * (p4 * n) + 8 * (p4 * w) := by grind
    rw [e1, e2, e3]
    omega
theorem sharp_bound {k : Nat} {L : List Lvl} (hL : 1 ≤ L.length) (hr : Roomy k L) (hs : Steep k L) : ssum L * (k * k) ≤ 8 * wsum L * wsum L := by
  have h0 : L ≠ [] := by intro e; rw [e] at hL; simp at hL
  have h1 := spread_sum h0 hr
  obtain ⟨m, hm⟩ : ∃ m, L.length = m + 1 := ⟨L.length - 1, by omega⟩
  rw [hm] at h1
  have e4 : (4 : Nat) ^ (m + 1) = 2 ^ (m + 1) * 2 ^ (m + 1) := by rw [← Nat.mul_pow]
  have h2 : 2 * (k * 2 ^ (m + 1) * ssum L) ≤ 3 * (2 ^ (m + 1) * 2 ^ (m + 1) * wsum L) := by rw [← e4]; omega
  have hp : 0 < 2 ^ (m + 1) := Nat.pow_pos (by decide)
  have h3 : 2 * (k * ssum L) ≤ 3 * (2 ^ (m + 1) * wsum L) := by
    refine Nat.le_of_mul_le_mul_left (c := 2 ^ (m + 1)) ?_ hp
    have a : 2 ^ (m + 1) * (2 * (k * ssum L)) = 2 * (k * 2 ^ (m + 1) * ssum L) := by grind
    have b : 2 ^ (m + 1) * (3 * (2 ^ (m + 1) * wsum L)) = 3 * (2 ^ (m + 1) * 2 ^ (m + 1) * wsum L) := by grind
    rw [a, b]; exact h2
  rcases hs with h | h
  · have hm0 : m = 0 := by omega
    subst hm0
    match L, h0, hr, hm with
    | [l], _, hr, _ =>
      have h1 := hr.1
      have h2 := capOf_ge k 0
      have h3 : l.times = 0 := by
        have h4 := Nat.mul_le_mul_left l.times h2
        have h5 : l.times * capOf k 0 ≤ 0 := h1
        omega
      simp [ssum, h3]
  · rw [hm, Nat.add_sub_cancel] at h
    have h4 := Nat.mul_le_mul_left k h3
    have h5 := Nat.mul_le_mul_right (wsum L) h
    have e1 : k * (2 * (k * ssum L)) = 2 * (ssum L * (k * k)) := by grind
    have e2 : k * (3 * (2 ^ (m + 1) * wsum L)) = 6 * (2 ^ m * k * wsum L) := by rw [Nat.pow_succ]; grind
    rw [e1, e2] at h4
    have e3 : 2 * wsum L * wsum L = 2 * (wsum L * wsum L) := by grind
    have e5 : 8 * wsum L * wsum L = 8 * (wsum L * wsum L) := by grind
    rw [e3] at h5
    rw [e5]
    omega

/-- What holds all the way where all weighs 1. -/
structure HInv (W : Wd) : Prop where
  inv : MInv W
  steep : ∀ i, i < 3 → Steep (W.D.sks.getD i Hd.none).sk.k (W.D.sks.getD i Hd.none).sk.lv
theorem set_at {W : Wd} {i : Nat} {hd : Hd} (hi : i < W.D.sks.length) (j : Nat) : (W.D.sks.set i hd).getD j Hd.none = if j = i then hd else W.D.sks.getD j Hd.none := by
  by_cases e : j = i
  · subst e
    rw [if_pos rfl]
    simp only [List.getD]
    rw [List.getElem?_set_self hi]
    rfl
  · rw [if_neg e]
    simp only [List.getD]
    rw [List.getElem?_set_ne (Ne.symm e)]
theorem HInv.add {W : Wd} {p d i : Nat} {ps : Nat → Nat} {x : Int} {w' : World} (h : HInv W) (hi : i < 3) (ha : AddPost K w0 p d 3 i ps x 1 W w') : ∃ W', WdSt K w0 w' p d 3 ps W' ∧ HInv W' := by
  rcases ha with ⟨_, hst⟩ | ⟨hf, cs, L', a, ha, hs, hcs, hst⟩
  · exact ⟨W, hst, h⟩
  · refine ⟨_, hst, minv_took h.inv hi (by omega) (by omega) hf ha.1 hs hcs, fun j hj => ?_⟩
    have hc := h.inv.came i hi
    show Steep ((W.D.sks.set i _).getD j Hd.none).sk.k ((W.D.sks.set i _).getD j Hd.none).sk.lv
    rw [set_at (by rw [h.inv.len]; exact hi)]
    by_cases e : j = i
    · rw [if_pos e]
      refine Steep.settle hc.inok.ok.k1 ?_ hs
      have hl : (addL (W.D.sks.getD i Hd.none) x 1).length = (W.D.sks.getD i Hd.none).sk.lv.length := with_one hc.inok.ok.len1
      have hw : wsum (addL (W.D.sks.getD i Hd.none) x 1) = wsum (W.D.sks.getD i Hd.none).sk.lv + 1 := by unfold addL; rw [withFrom_wsum (by decide) (Nat.zero_le _)]
      unfold Steep
      rw [hl, hw]
      rcases h.steep i hi with s | s
      · exact .inl s
      · exact .inr (by omega)
    · rw [if_neg e]; exact h.steep j hj
theorem HInv.merge {W : Wd} {p d i j : Nat} {ps : Nat → Nat} {w' : World} (h : HInv W) (hi : i < 3) (hj : j < 3) (ha : MergePost K w0 p d 3 i j ps W w') : ∃ W', WdSt K w0 w' p d 3 ps W' ∧ HInv W' := by
  rcases ha with ⟨_, hst⟩ | ⟨hf, cs, L', a, ha, hs, hcs, hst⟩
  · exact ⟨W, hst, h⟩
  · refine ⟨_, hst, minv_joined h.inv hi hj hf ha.1 hs hcs, fun t ht => ?_⟩
    have hci := (h.inv.came i hi).inok.ok.k1
    have hcj := (h.inv.came j hj).inok.ok.k1
    have hki : mgK (W.D.sks.getD i Hd.none) (W.D.sks.getD j Hd.none) ≤ (W.D.sks.getD i Hd.none).sk.k := by unfold mgK mergeK; split <;> omega
    have hkj : mgK (W.D.sks.getD i Hd.none) (W.D.sks.getD j Hd.none) ≤ (W.D.sks.getD j Hd.none).sk.k := by unfold mgK mergeK; split <;> omega
    have hk2 : 2 ≤ mgK (W.D.sks.getD i Hd.none) (W.D.sks.getD j Hd.none) := by unfold mgK mergeK; split <;> omega
    show Steep ((W.D.sks.set i _).getD t Hd.none).sk.k ((W.D.sks.set i _).getD t Hd.none).sk.lv
    rw [set_at (by rw [h.inv.len]; exact hi)]
    by_cases e : t = i
    · rw [if_pos e]
      exact Steep.settle hk2 (Steep.merge ((h.steep i hi).mono hki) ((h.steep j hj).mono hkj)) hs
    · rw [if_neg e]; exact h.steep t ht

end Go.Proofs.Ytklicjbpjigfdaa

/- DERIVED. The walk of the statement Sharp: it returns true, and nothing that was there has turned. -/
namespace Go.Proofs.Ytklicjbpjigfdaa
open Go.RowKit

theorem first_hinv (k : Int) (coins : ByteArray) (hc : coins.size ≤ 140737488355328) : HInv (Wd.first k coins 3) := by
  refine ⟨first_minv k coins hc, fun i hi => ?_⟩
  have : i = 0 ∨ i = 1 ∨ i = 2 := by omega
  rcases this with rfl | rfl | rfl
  all_goals exact .inl (Nat.le_refl _)

set_option maxHeartbeats 2000000 in
set_option maxRecDepth 100000 in
theorem sharp_walk (k : Int) (coins : ByteArray) (ao : Option Addr) (n cap : Nat) (ss : List St) (w : World) (hk1 : -9223372036854775808 ≤ k) (hk2 : k ≤ 9223372036854775807) (hcs : coins.size ≤ 140737488355328) (hl : ss.length = n) (hr : n * 32 ≤ 140737488351232) (hrg : ∀ s ∈ ss, InRange s.a ∧ InRange s.b ∧ InRange s.c)
    (hc : ∀ i, i < n → ∃ b off, ao = some ⟨b, off, none⟩ ∧ b < w.heap.size ∧ w.cell? ⟨b, off + i * 4, none⟩ = some (.int .i64 (ss.getD i St.zero).kd) ∧ w.cell? ⟨b, off + i * 4 + 1, none⟩ = some (.int .i64 (ss.getD i St.zero).a) ∧ w.cell? ⟨b, off + i * 4 + 2, none⟩ = some (.int .i64 (ss.getD i St.zero).b) ∧ w.cell? ⟨b, off + i * 4 + 3, none⟩ = some (.int .i64 (ss.getD i St.zero).c)) :
    Calls Try.prog 9 #[.int .i64 k, .string coins, .slice ao n cap] w fun e w' => e = .returned (.bool true) ∧ Below w.heap.size w w' := by
  have HB := hid (begin_w k coins w hk1 hk2)
  have HC := hid hc
  have HINV := hid (first_hinv k coins hcs)
  have HRG := hid hrg
  have HL := hid hl
  clear hc hrg hl
  go_enter Try.func9, Try.ntmps9
  go_wp2_with fail
  refine HB.out.mono ?_
  rintro e w1 ⟨p, d, ps, rfl, hst1⟩
  have HST1 := hid hst1
  clear hst1 HB
  go_wp2_with fail
  go_loopw [8] (fun si wr => ∃ (i : Nat) (W : Wd), i ≤ n ∧ si = .int .i64 i ∧ Hid (HInv W) ∧ Hid (WdSt (fun b => b < w.heap.size) w wr p d 3 ps W)) (fun si _ => n - (intOf si).toNat)
  case atStart => exact ⟨0, _, Nat.zero_le _, rfl, HINV, HST1⟩
  case round =>
    obtain ⟨i, W, hi, rfl, Hinv, Hst⟩ := hrel
    clear HST1 HINV
    by_cases hil : i < n
    · have hil' : i < ss.length := by rw [HL.out]; exact hil
      obtain ⟨bs, off, rfl, hbz, q0, q1, q2, q3⟩ := HC.out i hil
      have hke := Hst.out.keeps
      have hbk : ∀ o, wr.cell? ⟨bs, o, none⟩ = w.cell? ⟨bs, o, none⟩ := fun o => World.cell?_of_block (hke.block bs hbz)
      rw [← hbk] at q0 q1 q2 q3
      have hmem : ss.getD i St.zero ∈ ss := by simp [List.getD, hil']
      have hg := HRG.out _ hmem
      generalize ss.getD i St.zero = st at *
      have hbz2 : bs < wr.heap.size := Nat.lt_of_lt_of_le hbz hke.size
      have HP := hid (fun (w' : World) => pick_any st.a 3 w' hg.1.1 hg.1.2 (by omega) (by omega))
      have HP2 := hid (fun (w' : World) => pick_any st.b 3 w' hg.2.1.1 hg.2.1.2 (by omega) (by omega))
      have hpl := pickN_lt st.a (n := 3) (by omega)
      have hpl2 := pickN_lt st.b (n := 3) (by omega)
      have hm := Hinv.out.inv
      have HAD := hid (fun (w' : World) (hb : WdSt (fun b => b < w.heap.size) w w' p d 3 ps W) => (wadd_any p d (pickN st.a 3) 1 st.b ps W w' hb hpl hm.len (hm.uns _ hpl) (hm.came _ hpl).inok hm.tape (by omega) (by omega) hm.at_ hm.coins hm.most hm.small : Calls Try.prog 21 #[.pointer (some ⟨p, 0, none⟩), .int .i64 (pickN st.a 3 : Int), .int .i64 st.b, .int .i64 1] w' _))
      have HMG := hid (fun (w' : World) (hb : WdSt (fun b => b < w.heap.size) w w' p d 3 ps W) => wmerge_any p d (pickN st.a 3) (pickN st.b 3) ps W w' hb hpl hpl2 hm.len (hm.uns _ hpl) (hm.came _ hpl) (hm.came _ hpl2) hm.tape hm.at_ hm.coins hm.most hm.small)
      generalize pickN st.a 3 = a at *
      generalize pickN st.b 3 = b at *
      have HSA : Hid (∀ o, WdSt (fun b => b < w.heap.size) w (wr.alloc o) p d 3 ps W) := fun o => Hst.out.below ((Below.refl _ _).alloc (Nat.le_refl _) o)
      clear hmem hg hbk hke hm
      go_upto_if 39 with (first | (go_at_call 26; refine (HP.out _).mono ?_; rintro e w' ⟨rfl, hw⟩; obtain rfl := hw.symm))
      go_cut [11] from 24 to 111 (fun s11 wc => s11 = .bool true ∧ ∃ W', HInv W' ∧ WdSt (fun b => b < w.heap.size) w wc p d 3 ps W')
      case first =>
        by_cases hkd : st.kd = 1
        · have hkd' : (st.kd == 1) = true := by simp [hkd]
          go_wp2_with fail
          refine (HP2.out _).mono ?_
          rintro e w' ⟨rfl, hw⟩
          obtain rfl := hw.symm
          clear hw HP2
          go_wp2_with fail
          refine (HMG.out _ (HSA.out _)).mono ?_
          rintro e w4 ⟨rfl, hpost⟩
          have HPO := hid (Hinv.out.merge hpl hpl2 hpost)
          clear hpost HMG
          go_wp2_with fail
          go_meet
          obtain ⟨W', h1, h2⟩ := HPO.out
          exact ⟨rfl, W', h2, h1⟩
        · have hkd' : (st.kd == 1) = false := by simpa using hkd
          go_wp2_with fail
          refine (HAD.out _ (HSA.out _)).mono ?_
          rintro e w4 ⟨rfl, hpost⟩
          have HPO := hid (Hinv.out.add hpl hpost)
          clear hpost HAD
          go_wp2_with fail
          go_meet
          obtain ⟨W', h1, h2⟩ := HPO.out
          exact ⟨rfl, W', h2, h1⟩
      case rest =>
        obtain ⟨rfl, W', hinv', hst'⟩ := hcut
        clear HAD HMG HSA HP HP2 Hinv Hst q0 q1 q2 q3
        have hm := hinv'.inv
        have HKE := hid (kept_any p d a ps W' wc hst' hpl hm.len (hm.came a hpl))
        have HOF := hid (fun (w' : World) (hb : Below wc.heap.size wc w') => off_any p d a ps W' w' (hst'.below hb) hpl hm.len (hm.came a hpl) (hm.roomy a hpl))
        have HSE := hid (fun (w' : World) (hb : Below wc.heap.size wc w') => spare_any p d a ps W' w' (hst'.below hb) hpl hm.len (hm.came a hpl) (hm.roomy a hpl) (hm.tall a hpl))
        have HST := hid hst'
        have HI := hid hinv'
        have hca := hm.came a hpl
        have hn1 := hca.inok.n
        have hn2 := hca.inok.ok.cnt
        have hkk := hca.k
        have hk21 := hca.inok.ok.k1
        have hk22 := hca.inok.ok.k2
        have hsh := sharp_bound hca.inok.ok.len1 (hm.roomy a hpl) (hinv'.steep a hpl)
        rw [← hn1, ← hkk] at hsh
        rw [← hkk] at hk21 hk22
        rw [← hn1] at hn2
        have hssm := ssum_small hca (hm.roomy a hpl)
        have HSC : Hid (∀ w', Below wc.heap.size wc w' → ∃ gs cs0, w'.cell? ⟨p, 1, none⟩ = some (.slice (some ⟨gs, 0, none⟩) 3 cs0) ∧ w'.cell? ⟨gs, a, none⟩ = some (.pointer (some ⟨ps a, 0, none⟩)) ∧ w'.cell? ⟨ps a, 2, none⟩ = some (.int .i64 ((W'.sd a).n : Int)) ∧ w'.cell? ⟨ps a, 3, none⟩ = some (.int .i64 ((W'.sd a).k : Int))) := by
          intro w' hb
          obtain ⟨own, vs, vx, vw, h9, _⟩ := hst'.below hb
          obtain ⟨gs, cs0, evs, hptr⟩ := h9.ptr hpl
          have e1 := (blk7 h9.blk).2.1
          rw [evs] at e1
          have e2 := (blk6 (h9.side a hpl).blk)
          exact ⟨gs, cs0, e1, hptr, e2.2.2.1, e2.2.2.2.1⟩
        generalize ssum (W'.D.sks.getD a Hd.none).sk.lv = sv at *
        generalize esum (W'.D.sks.getD a Hd.none).sk.lv = ev at *
        generalize tsum (W'.D.sks.getD a Hd.none).sk.lv = tv at *
        generalize (W'.sd a).n = sn at *
        generalize (W'.sd a).k = sk at *
        generalize ps a = pa at *
        clear hinv' hst' hm hca hn1 hkk
        go_wp2_with fail
        refine HKE.out.mono ?_
        rintro e w5 ⟨rfl, hb5⟩
        have HB5 := hid hb5
        clear hb5 HKE
        go_wp2_with fail
        refine (HOF.out _ HB5.out).mono ?_
        rintro e w6 ⟨rfl, hb6⟩
        have HB6 : Hid (Below wc.heap.size wc w6) := HB5.out.trans (hb6.mono HB5.out.size)
        clear hb6 HOF HB5
        go_wp2_with fail
        refine (HSE.out _ HB6.out).mono ?_
        rintro e w7 ⟨rfl, hb7⟩
        have hb8 : Below wc.heap.size wc w7 := HB6.out.trans (hb7.mono HB6.out.size)
        obtain ⟨gs, cs0, y0, y1, y2, y3⟩ := HSC.out w7 hb8
        have HB8 := hid hb8
        have hs1 : (0 : Int) ≤ (a : Int) := by omega
        have hs2 : (a : Int) < 3 := by omega
        have n8 : 8 * sn * sn ≤ 8 * 268435456 * 268435456 := Nat.mul_le_mul (by omega) hn2
        have kk1 : 4 ≤ sk * sk := Nat.mul_le_mul hk21 hk21
        have kk2 : sk * sk ≤ 4096 := Nat.mul_le_mul hk22 hk22
        have hq : sv ≤ 8 * sn * sn / (sk * sk) := by rw [Nat.le_div_iff_mul_le (by omega)]; exact hsh
        have hq' : 8 * sn * sn / (sk * sk) ≤ 8 * sn * sn := Nat.div_le_self _ _
        have m1 : (8 : Int) * (sn : Int) * (sn : Int) ≤ 576460752303423488 := by
          have : (8 : Int) * (sn : Int) * (sn : Int) = ((8 * sn * sn : Nat) : Int) := by simp
          rw [this]; omega
        have m2 : 0 ≤ (8 : Int) * (sn : Int) * (sn : Int) := Int.mul_nonneg (by omega) (by omega)
        have m3 : ((sk : Int) * (sk : Int) == 0) = false := by
          rw [← Int.natCast_mul]; simp; omega
        have m4 : (sk : Int) * (sk : Int) ≤ 4096 := by rw [← Int.natCast_mul]; omega
        have m5 : 4 ≤ (sk : Int) * (sk : Int) := by rw [← Int.natCast_mul]; omega
        have e9 : (8 : Int) * (sn : Int) * (sn : Int) / ((sk : Int) * (sk : Int)) = ((8 * sn * sn / (sk * sk) : Nat) : Int) := by simp
        have d1 : (sv : Int) ≤ (8 : Int) * (sn : Int) * (sn : Int) / ((sk : Int) * (sk : Int)) := by rw [e9]; omega
        have d2 : (8 : Int) * (sn : Int) * (sn : Int) / ((sk : Int) * (sk : Int)) ≤ 576460752303423488 := by rw [e9]; omega
        have d3 : decide ((8 : Int) * (sn : Int) * (sn : Int) / ((sk : Int) * (sk : Int)) < (sv : Int)) = false := decide_eq_false (by omega)
        clear hb7 hb8 HSE HB6 HSC e9 hq hq' n8 kk1 kk2 hsh
        go_wp2_with fail
        go_quiet (fail)
        go_wp2_with fail
        go_roundw
        case rel => exact ⟨i + 1, W', by omega, by go_num, HI, (HST.out.below HB8.out).drewN⟩
        case measure => simp [intOf]; omega
    · go_wp2_with fail
      go_ret
      have hk := Hst.out.keeps
      exact ⟨rfl, ⟨hk.os, hk.tape, hk.output, hk.size, fun b hb => hk.block b hb⟩⟩

end Go.Proofs.Ytklicjbpjigfdaa
