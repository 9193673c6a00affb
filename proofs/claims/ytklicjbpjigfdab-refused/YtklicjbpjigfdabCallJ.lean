/- DERIVED. The walk of the book's joined. -/
import Derived.Test.YtklicjbpjigfdabQ21
namespace Go.Proofs.Ytklicjbpjigfdab
open Go.RowKit
attribute [local go_sem ↓] Go.wp_at_zero Go.wp_at_succ
variable {K : Nat → Prop} {w0 : World}

theorem merge_rel_ok {D D' : Dk} {i j : Nat} {L : List Lvl} {u : Nat} (hd : DInv D) (hi : i < D.sks.length) (hj : j < D.sks.length) (hf : wsum (D.sks.getD i Hd.none).sk.lv + wsum (D.sks.getD j Hd.none).sk.lv ≤ 268435456) (hset : settle (mgK (D.sks.getD i Hd.none) (D.sks.getD j Hd.none)) D.tape 0 (mgL (D.sks.getD i Hd.none) (D.sks.getD j Hd.none)) = some (L, u))
    (hD : D' = { D with tape := D.tape.drop u, sks := D.sks.set i { sk := { k := mgK (D.sks.getD i Hd.none) (D.sks.getD j Hd.none), lv := L, lo := mgLo (D.sks.getD i Hd.none) (D.sks.getD j Hd.none), hi := mgHi (D.sks.getD i Hd.none) (D.sks.getD j Hd.none) }, sealed := (D.sks.getD i Hd.none).sealed, taken := (D.sks.getD i Hd.none).taken } }) :
    DInv D' ∧ D'.sks.length = D.sks.length ∧ D'.tape.length ≤ D.tape.length ∧ (∀ j, j ≠ i → (D'.sks.getD j Hd.none).sk = (D.sks.getD j Hd.none).sk) ∧
    ({ bkOf D with pg := (bkOf D).pg.set i { (bkOf D).pg.getD i Pg.none with n := wsum (D.sks.getD i Hd.none).sk.lv + wsum (D.sks.getD j Hd.none).sk.lv } } : Bk) = { bkOf D' with tape := D.tape.length } := by
  subst hD
  obtain ⟨hr, hw⟩ := rinv_merged (lo := mgLo (D.sks.getD i Hd.none) (D.sks.getD j Hd.none)) (hi := mgHi (D.sks.getD i Hd.none) (D.sks.getD j Hd.none)) (b := (D.sks.getD i Hd.none).sealed) (l := (D.sks.getD i Hd.none).taken) (hd.sk i hi) (hd.sk j hj) hf hset
  have hdl : (D.tape.drop u).length ≤ D.tape.length := by simp
  have ht := hd.tape
  refine ⟨hd.set hi hr (hd.tk i hi) (by omega), by show (D.sks.set i _).length = _; rw [List.length_set], hdl, fun j hj => ?_, ?_⟩
  · show ((D.sks.set i _).getD j Hd.none).sk = _
    rw [getD_set_hd hi, if_neg hj]
  · rw [bkOf_at D hi]
    refine bkOf_set ?_
    unfold pgOf
    simp only [hw]

set_option maxHeartbeats 4000000 in
set_option maxRecDepth 100000 in
theorem bjoined_any (p d : Nat) (kd A B C : Int) (t : ByteArray) (D : Dk) (ps : Nat → Nat) (w : World) (h : BkSt K w0 w p d D (bkOf D) ps) (hd : DInv D) (hkd : onOne kd) :
    Calls Try.prog 60 #[.pointer (some ⟨p, 0, none⟩), .agg #[.int .i64 kd, .int .i64 A, .int .i64 B, .int .i64 C, .string t]] w fun e w' => CallPost K w0 p d kd A D e w' := by
  obtain ⟨hbx, hkx⟩ := h.boxed (clBlk kd A B C t)
  have hkl := h.kl
  have HBOX := hid (heap_alloc_new w (clBlk kd A B C t))
  have hxz : w.heap.size < (w.alloc (clBlk kd A B C t)).heap.size := by simp
  obtain ⟨F, hdk, hstep⟩ := hbx.desk
  have HCALL := hid (fun (w' : World) (hb : Below (w.alloc (clBlk kd A B C t)).heap.size (w.alloc (clBlk kd A B C t)) w') => (mergeT d A B D w' (hdk.below hb) hd).mono (fun e w'' (hh : ∃ c D', e = .returned (.int .i64 c) ∧ DeskStep F w' w'' d D' ∧ MergeRel A B D c D') => (by obtain ⟨c, D', h1, h2, h3⟩ := hh; exact ⟨c, D', h1, hstep w'' D' (h2.later hb), h3⟩ : ∃ c D', e = .returned (.int .i64 c) ∧ BkSt (fun b => K b ∨ b = w.heap.size) (w.alloc (clBlk kd A B C t)) w'' p d D' (bkOf D) ps ∧ MergeRel A B D c D')))
  obtain ⟨ao0, cc0, f0, _, _, f3, hpz, _, _⟩ := hbx.facts
  obtain ⟨m0, m1, m2, m3, m4, mz⟩ := blk5 HBOX.out
  have HKX := hid hkx
  have HKL := hid hkl
  clear hbx hkx hdk hstep h hkl
  go_enter Try.func60, Try.ntmps60
  go_wp2_with fail
  generalize hwA : w.alloc (clBlk kd A B C t) = wA at *
  have HWA := hid hwA
  clear hwA
  go_region_held3 (fun w' => w'.cell? ⟨p, 0, none⟩ = some (.pointer (some ⟨d, 0, none⟩)) ∧ w'.cell? ⟨w.heap.size, 1, none⟩ = some (.int .i64 A) ∧ w'.cell? ⟨w.heap.size, 2, none⟩ = some (.int .i64 B)) (first | go_keep | exact ⟨f0', m1', m2'⟩) (first | (go_at_call 57; refine (HCALL.out _ (bdrewT (Below.refl _ _))).mono ?_; rintro e w1 ⟨c, D', rfl, hbk, hrel⟩; obtain ⟨ao1, cc1, f0', f1', f2', f3', hpz1, fz1, fp1⟩ := hbk.facts; obtain ⟨m0', m1', m2', m3', m4', mz'⟩ := blk5 ((hbk.keeps.block w.heap.size (.inr rfl)).trans HBOX.out)))
  have HBK := hid hbk
  have hxz1 : w.heap.size < w1.heap.size := Nat.lt_of_lt_of_le hxz hbk.keeps.size
  have HBACK : Hid (∀ (w' : World) (D' : Dk) (E' : Bk) (ps' : Nat → Nat), BkSt (fun b => K b ∨ b = w.heap.size) wA w' p d D' E' ps' → BkSt K w0 w' p d D' E' ps') := fun w' D' E' ps' hh => hh.back (fun b hb => .inl hb) HKL.out HKX.out
  have HPN := hid (fun (s : Int) (hs : hasB s (bkOf D).pg.length = false) => page_no p d s D' (bkOf D) ps w1 hbk hs)
  have HPA := hid (fun (i : Nat) (hi : i < (bkOf D).pg.length) => page_at p d i D' (bkOf D) ps w1 hbk hi)
  clear f0 f3 m0 m1 m2 m3 m4 mz HCALL hpz hxz hbk
  rcases hrel with ⟨rfl, hs, rfl⟩ | ⟨i, j, rfl, rfl, hi, hj, hcase⟩
  · cases hA : hasB A D'.sks.length with
    | false =>
      have HP := hid (HPN.out A (by rw [bkOf_len]; exact hA))
      cases hB : hasB B D'.sks.length with
      | false =>
        have HQ := hid (HPN.out B (by rw [bkOf_len]; exact hB))
        clear HPN HPA hs
        go_wp2_with fail
        refine HP.out.mono ?_
        rintro e w' ⟨rfl, hw⟩
        obtain rfl := hw.symm
        clear hw
        go_wp2_with fail
        refine HQ.out.mono ?_
        rintro e w' ⟨rfl, hw⟩
        obtain rfl := hw.symm
        clear hw
        go_wp2_with fail
        go_ret2
        exact bk_same (HBACK.out _ _ _ _ HBK.out) (by decide)
      | true =>
        obtain ⟨j, rfl, hj⟩ := hasB_at hB
        have HQ := hid (HPA.out j (by rw [bkOf_len]; exact hj))
        clear HPN HPA hs
        go_wp2_with fail
        refine HP.out.mono ?_
        rintro e w' ⟨rfl, hw⟩
        obtain rfl := hw.symm
        clear hw
        go_wp2_with fail
        refine HQ.out.mono ?_
        rintro e w' ⟨rfl, hw⟩
        obtain rfl := hw.symm
        clear hw
        go_wp2_with fail
        go_ret2
        exact bk_same (HBACK.out _ _ _ _ HBK.out) (by decide)
    | true =>
      have hB : hasB B D'.sks.length = false := by
        rcases hs with h | h
        · rw [h] at hA; cases hA
        · exact h
      obtain ⟨i, rfl, hi⟩ := hasB_at hA
      have HP := hid (HPA.out i (by rw [bkOf_len]; exact hi))
      have HQ := hid (HPN.out B (by rw [bkOf_len]; exact hB))
      clear HPN HPA hs
      go_wp2_with fail
      refine HP.out.mono ?_
      rintro e w' ⟨rfl, hw⟩
      obtain rfl := hw.symm
      clear hw
      go_wp2_with fail
      refine HQ.out.mono ?_
      rintro e w' ⟨rfl, hw⟩
      obtain rfl := hw.symm
      clear hw
      go_wp2_with fail
      go_ret2
      exact bk_same (HBACK.out _ _ _ _ HBK.out) (by decide)
  · have HP := hid (HPA.out i (by rw [bkOf_len]; exact hi))
    have HQ := hid (HPA.out j (by rw [bkOf_len]; exact hj))
    have hpl : i < (bkOf D).pg.length := by rw [bkOf_len]; exact hi
    have hpj : j < (bkOf D).pg.length := by rw [bkOf_len]; exact hj
    obtain ⟨vx, vw, g0, g1, g2, g3, _, _, hgz, gz⟩ := HBK.out.pgFacts hpl
    obtain ⟨vxj, vwj, q0, q1, _, _, _, _, hqz, qz⟩ := HBK.out.pgFacts hpj
    rw [bkOf_at D hi] at g0 g1
    rw [bkOf_at D hj] at q0 q1
    change w1.cell? ⟨ps i, 0, none⟩ = some (.int .i64 (wsum (D.sks.getD i Hd.none).sk.lv : Int)) at g0
    change w1.cell? ⟨ps i, 1, none⟩ = some (.bool (D.sks.getD i Hd.none).sealed) at g1
    change w1.cell? ⟨ps j, 0, none⟩ = some (.int .i64 (wsum (D.sks.getD j Hd.none).sk.lv : Int)) at q0
    have HPL := hid hpl
    have hcnt := (hd.sk i hi).ok.cnt
    have hcnt2 := (hd.sk j hj).ok.cnt
    clear HPN HPA hpl hpj q1
    rcases hcase with ⟨rfl, hse, rfl⟩ | ⟨hse, hcase⟩
    · rw [hse] at g1
      go_wp2_with fail
      refine HP.out.mono ?_
      rintro e w' ⟨rfl, hw⟩
      obtain rfl := hw.symm
      clear hw
      go_wp2_with fail
      refine HQ.out.mono ?_
      rintro e w' ⟨rfl, hw⟩
      obtain rfl := hw.symm
      clear hw
      go_wp2_with fail
      go_ret2
      exact bk_same (HBACK.out _ _ _ _ HBK.out) (by decide)
    · rw [hse] at g1
      rcases hcase with ⟨rfl, h2, rfl⟩ | ⟨h2, hcase⟩
      · have hd1 : decide (268435456 - (wsum (D'.sks.getD i Hd.none).sk.lv : Int) < (wsum (D'.sks.getD j Hd.none).sk.lv : Int)) = true := decide_eq_true (by omega)
        generalize hn : wsum (D'.sks.getD i Hd.none).sk.lv = n at *
        generalize hm : wsum (D'.sks.getD j Hd.none).sk.lv = m at *
        go_wp2_with fail
        refine HP.out.mono ?_
        rintro e w' ⟨rfl, hw⟩
        obtain rfl := hw.symm
        clear hw
        go_wp2_with fail
        refine HQ.out.mono ?_
        rintro e w' ⟨rfl, hw⟩
        obtain rfl := hw.symm
        clear hw
        go_wp2_with fail
        go_quiet (fail)
        go_wp2_with fail
        go_ret2
        exact bk_same (HBACK.out _ _ _ _ HBK.out.drewN) (by decide)
      · have hd1 : decide (268435456 - (wsum (D.sks.getD i Hd.none).sk.lv : Int) < (wsum (D.sks.getD j Hd.none).sk.lv : Int)) = false := decide_eq_false (by omega)
        rcases hcase with ⟨rfl, hset, rfl⟩ | ⟨rfl, L, u, hset, hD⟩
        · have hsh := merge_short (hd.sk i hi) (hd.sk j hj) hset
          have HSH := hid (fun (w' : World) (hb : Below w1.heap.size w1 w') => short_any p d D' (bkOf D') ps w' (HBK.out.below hb) hsh)
          have HSET := hid hset
          clear hset
          generalize hn : wsum (D'.sks.getD i Hd.none).sk.lv = n at *
          generalize hm : wsum (D'.sks.getD j Hd.none).sk.lv = m at *
          go_wp2_with fail
          refine HP.out.mono ?_
          rintro e w' ⟨rfl, hw⟩
          obtain rfl := hw.symm
          clear hw
          go_wp2_with fail
          refine HQ.out.mono ?_
          rintro e w' ⟨rfl, hw⟩
          obtain rfl := hw.symm
          clear hw
          go_wp2_with fail
          go_quiet (fail)
          go_wp2_with fail
          refine (HSH.out _ (below_drewN (Below.refl _ _) _)).mono ?_
          rintro e w' ⟨rfl, hw⟩
          obtain rfl := hw.symm
          go_wp2_with fail
          go_ret2
          exact bk_same (HBACK.out _ _ _ _ HBK.out.drewN) (by decide)
        · obtain ⟨z1, z2, z4, z5, z6⟩ := merge_rel_ok hd hi hj h2 hset hD
          have HSET := hid hset
          have HZ := hid (And.intro z1 (And.intro z2 (And.intro z4 z5)))
          have HZ6 := hid z6
          have HSTN := hid (fun (w' : World) (hb : Below w1.heap.size w1 w') => (HBK.out.below hb).setN HPL.out (wsum (D.sks.getD i Hd.none).sk.lv + wsum (D.sks.getD j Hd.none).sk.lv))
          have hilen : i < D'.sks.length := by rw [z2]; exact hi
          have hok' := (z1.sk i hilen).ok
          have HOK' := hid hok'
          clear hset hD z1 z2 z4 z5 z6 hok'
          generalize hn : wsum (D.sks.getD i Hd.none).sk.lv = n at *
          generalize hm : wsum (D.sks.getD j Hd.none).sk.lv = m at *
          go_wp2_with fail
          refine HP.out.mono ?_
          rintro e w' ⟨rfl, hw⟩
          obtain rfl := hw.symm
          clear hw
          go_wp2_with fail
          refine HQ.out.mono ?_
          rintro e w' ⟨rfl, hw⟩
          obtain rfl := hw.symm
          clear hw
          go_wp2_with fail
          go_quiet (fail)
          go_wp2_with fail
          have HX : Hid (∀ (w' : World), Below w1.heap.size w1 w' → BkSt (fun b => K b ∨ b = w.heap.size) wA (w'.setCell ⟨ps i, 0, none⟩ (.int .i64 ((n : Int) + (m : Int)))) p d D' { bkOf D' with tape := D.tape.length } ps) := fun w' hb => by
            have e := HSTN.out w' hb
            rw [HZ6.out, show ((n + m : Nat) : Int) = (n : Int) + (m : Int) by omega] at e
            exact e
          have hbq : Below w1.heap.size w1 (w1.drewN nq) := below_drewN (Below.refl _ _) _
          go_region_with fail
          all_goals
            have hst2 := HX.out (w1.drewN (nq + 1)) (below_drewN (Below.refl _ _) _)
            have hwr : IntKind.i64.wrap ((n : Int) + (m : Int)) = (n : Int) + (m : Int) := by rw [IntKind.wrap_i64]; omega
            rw [hwr]
            generalize hw2 : (w1.drewN (nq + 1)).setCell ⟨ps i, 0, none⟩ (.int .i64 ((n : Int) + (m : Int))) = w2 at *
            clear hw2 hwr
            obtain ⟨ao2, cc2, k0, k1, k2, k3, hpz2, kz, _⟩ := hst2.facts
            have hpl2 : i < ({ bkOf D' with tape := D.tape.length } : Bk).pg.length := by show i < (bkOf D').pg.length; rw [bkOf_len]; exact hilen
            obtain ⟨vx2, vw2, n0, n1, _, _, _, _, hgz2, nz⟩ := hst2.pgFacts hpl2
            rw [show ({ bkOf D' with tape := D.tape.length } : Bk).pg = (bkOf D').pg from rfl, bkOf_at D' hilen] at n0
            change w2.cell? ⟨ps i, 0, none⟩ = some (.int .i64 (wsum (D'.sks.getD i Hd.none).sk.lv : Int)) at n0
            obtain ⟨l0, l1, l2, l3, l4, lz⟩ := blk5 ((hst2.keeps.block w.heap.size (.inr rfl)).trans HBOX.out)
            have hbz2 : w.heap.size < w2.heap.size := Nat.lt_of_lt_of_le (lt_of_blk' HBOX.out) hst2.keeps.size
            have HCO := hid (fun (w' : World) (hb : Below w2.heap.size w2 w') => bcount_any p d i D' _ ps w' (hst2.below hb) hilen HOK'.out)
            have HST2 := hid hst2
            generalize wsum (D'.sks.getD i Hd.none).sk.lv = nn at *
            clear hst2 f0' f1' f2' f3' fz1 fp1 m0' m1' m2' m3' m4' mz' g0 g1 g2 g3 gz hpz1
            go_wp2_with fail
            go_region_held3 (fun w' => w'.cell? ⟨w.heap.size, 1, none⟩ = some (.int .i64 (i : Int)) ∧ w'.cell? ⟨ps i, 0, none⟩ = some (.int .i64 (nn : Int))) (first | go_keep | exact ⟨(hb3.cell (by exact hbz2)).trans l1, (hb3.cell (by exact hgz2)).trans n0⟩) (first | (go_at_call 84; refine (HCO.out _ (bdrewT (Below.refl _ _))).mono ?_; rintro e w3 ⟨rfl, hb3⟩))
            have HB3 := hid (undrew hb3)
            clear hb3
            go_wp2_with fail
            go_ret2
            refine ⟨0, D', { bkOf D' with tape := D.tape.length }, ps, rfl, HBACK.out _ _ _ _ (HST2.out.below HB3.out), .inr ⟨rfl, HZ.out.1, by rw [HZ.out.2.1]; exact Nat.le_refl _, fun j hj hne => HZ.out.2.2.2 j (fun e => hne (by rw [if_pos hkd, e])), by rw [if_pos hkd], fun _ => ⟨HZ.out.2.2.1, by omega⟩⟩⟩

end Go.Proofs.Ytklicjbpjigfdab
