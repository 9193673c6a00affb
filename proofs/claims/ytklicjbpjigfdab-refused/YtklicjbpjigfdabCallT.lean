/- DERIVED. The walk of the book's taken. -/
import Derived.Test.YtklicjbpjigfdabCallJ
namespace Go.Proofs.Ytklicjbpjigfdab
open Go.RowKit
attribute [local go_sem ↓] Go.wp_at_zero Go.wp_at_succ
variable {K : Nat → Prop} {w0 : World}

theorem getD_set_pg {l : List Pg} {i : Nat} {x : Pg} (hi : i < l.length) : (l.set i x).getD i Pg.none = x := by simp [List.getD, hi]
theorem BkSt.growX2 {w : World} {p d i : Nat} {D : Dk} {E : Bk} {ps : Nat → Nat} (h : BkSt K w0 w p d D E ps) (hi : i < E.pg.length) (g : Pg) (hg : E.pg.getD i Pg.none = g) (X : List Int) (hX : g.snd = X) : ∃ ao c, w.cell? ⟨ps i, 2, none⟩ = some (.slice ao X.length c) ∧ ps i < w.heap.size ∧ (∀ o, w.frozen? ⟨ps i, o, none⟩ = false) ∧ Ints w (.slice ao X.length c) X ∧ Value.ownBlock (.slice ao X.length c) ≠ some (ps i) ∧
    ∀ (o : Obj) (w5 : World) (g5 cap5 : Nat) (x : Int), w5.ownsRow 0 3 1 (.slice (some ⟨g5, 0, none⟩) (X.length + 1) cap5) (X.length + 1) (ints (X ++ [x])) → (w.alloc o).grownBy w5 (Value.ownBlock (.slice ao X.length c)) → (Value.ownBlock (.slice ao X.length c) = some g5 ∨ w.heap.size ≤ g5) →
      BkSt K w0 (w5.setCell ⟨ps i, 2, none⟩ (.slice (some ⟨g5, 0, none⟩) (X.length + 1) cap5)) p d D { E with pg := E.pg.set i { g with snd := X ++ [x] } } ps := by
  subst hX hg
  exact h.growX hi
theorem BkSt.growW2 {w : World} {p d i : Nat} {D : Dk} {E : Bk} {ps : Nat → Nat} (h : BkSt K w0 w p d D E ps) (hi : i < E.pg.length) (g : Pg) (hg : E.pg.getD i Pg.none = g) (X : List Int) (hX : g.seq = X) : ∃ ao c, w.cell? ⟨ps i, 3, none⟩ = some (.slice ao X.length c) ∧ ps i < w.heap.size ∧ (∀ o, w.frozen? ⟨ps i, o, none⟩ = false) ∧ Ints w (.slice ao X.length c) X ∧ Value.ownBlock (.slice ao X.length c) ≠ some (ps i) ∧
    ∀ (o : Obj) (w5 : World) (g5 cap5 : Nat) (x : Int), w5.ownsRow 0 3 1 (.slice (some ⟨g5, 0, none⟩) (X.length + 1) cap5) (X.length + 1) (ints (X ++ [x])) → (w.alloc o).grownBy w5 (Value.ownBlock (.slice ao X.length c)) → (Value.ownBlock (.slice ao X.length c) = some g5 ∨ w.heap.size ≤ g5) →
      BkSt K w0 (w5.setCell ⟨ps i, 3, none⟩ (.slice (some ⟨g5, 0, none⟩) (X.length + 1) cap5)) p d D { E with pg := E.pg.set i { g with seq := X ++ [x] } } ps := by
  subst hX hg
  exact h.growW hi
theorem set4_blk {w : World} {r : Nat} {a b c d a' b' c' d' : Value} {t : TypeId} (hb : w.heap[r]? = some (.cells #[a, b, c, d] t (0, 0))) : ((((w.setCell ⟨r, 0, none⟩ a').setCell ⟨r, 1, none⟩ b').setCell ⟨r, 2, none⟩ c').setCell ⟨r, 3, none⟩ d').heap[r]? = some (.cells #[a', b', c', d'] t (0, 0)) := by
  rw [blk_set (i := 3) d' (blk_set (i := 2) c' (blk_set (i := 1) b' (blk_set (i := 0) a' hb)))]
  simp
theorem take_rel_ok {B C : Int} {t : ByteArray} {D D' : Dk} {i : Nat} {L : List Lvl} {u : Nat} (hd : DInv D) (hi : i < D.sks.length) (hr : 0 ≤ B ∧ B ≤ 255 ∧ 0 ≤ C) (hit : isText (bytesOf t) = true) (hl : (D.sks.getD i Hd.none).taken.length < 64) (hf : wsum (D.sks.getD i Hd.none).sk.lv + wsum (toldS (bytesOf t)).lv ≤ 268435456) (hset : settle (mgK (D.sks.getD i Hd.none) ⟨toldS (bytesOf t), false, []⟩) D.tape 0 (mgL (D.sks.getD i Hd.none) ⟨toldS (bytesOf t), false, []⟩) = some (L, u))
    (hD : D' = { D with tape := D.tape.drop u, sks := D.sks.set i ((D.sks.getD i Hd.none).reported ⟨toldS (bytesOf t), false, []⟩ L B C) }) :
    DInv D' ∧ D'.sks.length = D.sks.length ∧ D'.tape.length ≤ D.tape.length ∧ (∀ j, j ≠ i → (D'.sks.getD j Hd.none).sk = (D.sks.getD j Hd.none).sk) ∧ wsum (D.sks.getD i Hd.none).sk.lv ≤ wsum (D'.sks.getD i Hd.none).sk.lv ∧ wsum (D'.sks.getD i Hd.none).sk.lv ≤ 268435456 ∧
    ({ bkOf D with pg := (bkOf D).pg.set i ⟨wsum (D'.sks.getD i Hd.none).sk.lv, (D.sks.getD i Hd.none).sealed, sndL (D.sks.getD i Hd.none).taken ++ [B], seqL (D.sks.getD i Hd.none).taken ++ [C]⟩ } : Bk) = { bkOf D' with tape := D.tape.length } := by
  subst hD
  obtain ⟨hr', hw⟩ := rinv_merged (lo := mgLo (D.sks.getD i Hd.none) ⟨toldS (bytesOf t), false, []⟩) (hi := mgHi (D.sks.getD i Hd.none) ⟨toldS (bytesOf t), false, []⟩) (b := (D.sks.getD i Hd.none).sealed) (l := (D.sks.getD i Hd.none).taken ++ [(B.toNat, C.toNat)]) (hd.sk i hi) (rinv_told (b := false) (l := []) hit) hf hset
  have hdl : (D.tape.drop u).length ≤ D.tape.length := by simp
  have ht := hd.tape
  have eI : (D.sks.set i ((D.sks.getD i Hd.none).reported ⟨toldS (bytesOf t), false, []⟩ L B C)).getD i Hd.none = (D.sks.getD i Hd.none).reported ⟨toldS (bytesOf t), false, []⟩ L B C := by rw [getD_set_hd hi, if_pos rfl]
  have hw' : wsum ((D.sks.getD i Hd.none).reported ⟨toldS (bytesOf t), false, []⟩ L B C).sk.lv = wsum (D.sks.getD i Hd.none).sk.lv + wsum (toldS (bytesOf t)).lv := hw
  refine ⟨hd.set hi hr' (by show ((D.sks.getD i Hd.none).taken ++ [_]).length ≤ 64; simp only [List.length_append, List.length_singleton]; omega) (by omega), by show (D.sks.set i _).length = _; rw [List.length_set], hdl, fun j hj => ?_, ?_, ?_, ?_⟩
  · show ((D.sks.set i _).getD j Hd.none).sk = _
    rw [getD_set_hd hi, if_neg hj]
  · show _ ≤ wsum ((D.sks.set i _).getD i Hd.none).sk.lv
    rw [eI, hw']; omega
  · show wsum ((D.sks.set i _).getD i Hd.none).sk.lv ≤ _
    rw [eI, hw']; exact hf
  · show ({ bkOf D with pg := (bkOf D).pg.set i ⟨wsum ((D.sks.set i _).getD i Hd.none).sk.lv, _, _, _⟩ } : Bk) = _
    rw [eI]
    refine bkOf_set ?_
    unfold pgOf Hd.reported
    simp [sndL, seqL, Int.toNat_of_nonneg hr.1, Int.toNat_of_nonneg hr.2.2]

set_option maxHeartbeats 4000000 in
set_option maxRecDepth 100000 in
theorem taken_any (p d : Nat) (kd A B C : Int) (t : ByteArray) (D : Dk) (ps : Nat → Nat) (w : World) (h : BkSt K w0 w p d D (bkOf D) ps) (hd : DInv D) (hkd : onOne kd) (ht : t.size ≤ 140737488355328) :
    Calls Try.prog 62 #[.pointer (some ⟨p, 0, none⟩), .agg #[.int .i64 kd, .int .i64 A, .int .i64 B, .int .i64 C, .string t]] w fun e w' => CallPost K w0 p d kd A D e w' := by
  obtain ⟨hbx, hkx⟩ := h.boxed (clBlk kd A B C t)
  have hkl := h.kl
  have HBOX := hid (heap_alloc_new w (clBlk kd A B C t))
  have hxz : w.heap.size < (w.alloc (clBlk kd A B C t)).heap.size := by simp
  obtain ⟨F, hdk, hstep⟩ := hbx.desk
  have HCALL := hid (fun (w' : World) (hb : Below (w.alloc (clBlk kd A B C t)).heap.size (w.alloc (clBlk kd A B C t)) w') => (takeT d A B C t D w' (hdk.below hb) hd ht).mono (fun e w'' (hh : ∃ c D', e = .returned (.int .i64 c) ∧ DeskStep F w' w'' d D' ∧ TakeRel A B C t D c D') => (by obtain ⟨c, D', h1, h2, h3⟩ := hh; exact ⟨c, D', h1, hstep w'' D' (h2.later hb), h3⟩ : ∃ c D', e = .returned (.int .i64 c) ∧ BkSt (fun b => K b ∨ b = w.heap.size) (w.alloc (clBlk kd A B C t)) w'' p d D' (bkOf D) ps ∧ TakeRel A B C t D c D')))
  obtain ⟨ao0, cc0, f0, _, _, f3, hpz, _, _⟩ := hbx.facts
  obtain ⟨m0, m1, m2, m3, m4, mz⟩ := blk5 HBOX.out
  have HKX := hid hkx
  have HKL := hid hkl
  clear hbx hkx hdk hstep h hkl
  go_enter Try.func62, Try.ntmps62
  go_wp2_with fail
  generalize hwA : w.alloc (clBlk kd A B C t) = wA at *
  have HWA := hid hwA
  clear hwA
  go_region_held3 (fun w' => w'.cell? ⟨p, 0, none⟩ = some (.pointer (some ⟨d, 0, none⟩)) ∧ w'.cell? ⟨w.heap.size, 1, none⟩ = some (.int .i64 A) ∧ w'.cell? ⟨w.heap.size, 2, none⟩ = some (.int .i64 B) ∧ w'.cell? ⟨w.heap.size, 3, none⟩ = some (.int .i64 C) ∧ w'.cell? ⟨w.heap.size, 4, none⟩ = some (.string t)) (first | go_keep | exact ⟨f0', m1', m2', m3', m4'⟩) (first | (go_at_call 78; refine (HCALL.out _ (bdrewT (Below.refl _ _))).mono ?_; rintro e w1 ⟨c, D', rfl, hbk, hrel⟩; obtain ⟨ao1, cc1, f0', f1', f2', f3', hpz1, fz1, fp1⟩ := hbk.facts; obtain ⟨m0', m1', m2', m3', m4', mz'⟩ := blk5 ((hbk.keeps.block w.heap.size (.inr rfl)).trans HBOX.out)))
  have HBK := hid hbk
  have hxz1 : w.heap.size < w1.heap.size := Nat.lt_of_lt_of_le hxz hbk.keeps.size
  have HBACK : Hid (∀ (w' : World) (D' : Dk) (E' : Bk) (ps' : Nat → Nat), BkSt (fun b => K b ∨ b = w.heap.size) wA w' p d D' E' ps' → BkSt K w0 w' p d D' E' ps') := fun w' D' E' ps' hh => hh.back (fun b hb => .inl hb) HKL.out HKX.out
  have HPN := hid (fun (hs : hasB A (bkOf D).pg.length = false) => page_no p d A D' (bkOf D) ps w1 hbk hs)
  have HPA := hid (fun (i : Nat) (hi : i < (bkOf D).pg.length) => page_at p d i D' (bkOf D) ps w1 hbk hi)
  clear f0 f3 m0 m1 m2 m3 m4 mz HCALL hpz hxz hbk
  rcases hrel with ⟨rfl, hs, rfl⟩ | ⟨i, rfl, hi, hcase⟩
  · have HP := hid (HPN.out (by rw [bkOf_len]; exact hs))
    clear HPN HPA hs
    go_wp2_with (go_at_call 82; refine HP.out.mono ?_; rintro e w' ⟨rfl, hw⟩; obtain rfl := hw.symm)
    go_ret2
    exact bk_same (HBACK.out _ _ _ _ HBK.out) (by decide)
  · have HP := hid (HPA.out i (by rw [bkOf_len]; exact hi))
    have hpl : i < (bkOf D).pg.length := by rw [bkOf_len]; exact hi
    obtain ⟨vx, vw, g0, g1, g2, g3, hix, hiw, hgz, gz⟩ := HBK.out.pgFacts hpl
    rw [bkOf_at D hi] at g0 g1 hix hiw
    change w1.cell? ⟨ps i, 0, none⟩ = some (.int .i64 (wsum (D.sks.getD i Hd.none).sk.lv : Int)) at g0
    change w1.cell? ⟨ps i, 1, none⟩ = some (.bool (D.sks.getD i Hd.none).sealed) at g1
    change Ints w1 vx (sndL (D.sks.getD i Hd.none).taken) at hix
    change Ints w1 vw (seqL (D.sks.getD i Hd.none).taken) at hiw
    have hlt64 := hd.tk i hi
    have HTK := hid (ptook_any (ps i) (D.sks.getD i Hd.none).taken B C vx vw w1 g2 g3 hix hiw (by omega))
    obtain ⟨aox, cx, evx, _⟩ := hix.form
    rw [(sndL_len _).1] at evx
    rw [evx] at g2
    have HPL := hid hpl
    have hcnt := (hd.sk i hi).ok.cnt
    clear HPN HPA hpl hix hiw evx
    rcases hcase with ⟨rfl, hse, rfl⟩ | ⟨hse, hcase⟩
    · rw [hse] at g1
      go_wp2_with (go_at_call 82; refine HP.out.mono ?_; rintro e w' ⟨rfl, hw⟩; obtain rfl := hw.symm)
      go_ret2
      exact bk_same (HBACK.out _ _ _ _ HBK.out) (by decide)
    · rw [hse] at g1
      rcases hcase with ⟨rfl, h1, rfl⟩ | ⟨h1, hcase⟩
      · by_cases hb0 : B < 0
        · clear h1
          go_wp2_with (go_at_call 82; refine HP.out.mono ?_; rintro e w' ⟨rfl, hw⟩; obtain rfl := hw.symm)
          go_ret2
          exact bk_same (HBACK.out _ _ _ _ HBK.out) (by decide)
        · by_cases hb1 : 255 < B
          · clear h1
            go_wp2_with (go_at_call 82; refine HP.out.mono ?_; rintro e w' ⟨rfl, hw⟩; obtain rfl := hw.symm)
            go_ret2
            exact bk_same (HBACK.out _ _ _ _ HBK.out) (by decide)
          · have hc0 : C < 0 := by omega
            clear h1
            go_wp2_with (go_at_call 82; refine HP.out.mono ?_; rintro e w' ⟨rfl, hw⟩; obtain rfl := hw.symm)
            go_ret2
            exact bk_same (HBACK.out _ _ _ _ HBK.out) (by decide)
      · have hr1 := h1.1
        have hr2 := h1.2.1
        have hr3 := h1.2.2
        rcases hcase with ⟨rfl, htk, rfl⟩ | ⟨htk, hcase⟩
        · rw [htk] at HTK
          go_wp2_with (first | (go_at_call 82; refine HP.out.mono ?_; rintro e w' ⟨rfl, hw⟩; obtain rfl := hw.symm) | (go_at_call 85; refine HTK.out.mono ?_; rintro e w' ⟨rfl, hw⟩; obtain rfl := hw.symm))
          go_ret2
          exact bk_same (HBACK.out _ _ _ _ HBK.out) (by decide)
        · rw [htk] at HTK
          rcases hcase with ⟨rfl, hit, rfl⟩ | ⟨hit, hcase⟩
          · go_wp2_with (first | (go_at_call 82; refine HP.out.mono ?_; rintro e w' ⟨rfl, hw⟩; obtain rfl := hw.symm) | (go_at_call 85; refine HTK.out.mono ?_; rintro e w' ⟨rfl, hw⟩; obtain rfl := hw.symm))
            go_ret2
            exact bk_same (HBACK.out _ _ _ _ HBK.out) (by decide)
          · rcases hcase with ⟨rfl, hrm, rfl⟩ | ⟨hrm, hcase⟩
            · have e64 : (D'.sks.getD i Hd.none).taken.length = 64 := by omega
              rw [e64] at g2
              go_wp2_with (first | (go_at_call 82; refine HP.out.mono ?_; rintro e w' ⟨rfl, hw⟩; obtain rfl := hw.symm) | (go_at_call 85; refine HTK.out.mono ?_; rintro e w' ⟨rfl, hw⟩; obtain rfl := hw.symm))
              go_ret2
              exact bk_same (HBACK.out _ _ _ _ HBK.out) (by decide)
            · have n64 : (((D.sks.getD i Hd.none).taken.length : Int) == 64) = false := by rw [beq_eq_false_iff_ne]; omega
              have HN64 := hid hrm
              rcases hcase with ⟨rfl, h2, rfl⟩ | ⟨h2, hcase⟩
              · have hw9 := (rinv_told (b := false) (l := []) hit).ok.cnt
                have hpos : decide (0 < (wsum (D'.sks.getD i Hd.none).sk.lv : Int)) = true := decide_eq_true (by have : wsum (toldS (bytesOf t)).lv ≤ 268435456 := hw9; omega)
                generalize hn : wsum (D'.sks.getD i Hd.none).sk.lv = n at *
                generalize hm : (D'.sks.getD i Hd.none).taken.length = m at *
                have hp0 : 0 < n := by have := of_decide_eq_true hpos; omega
                go_wp2_with (first | (go_at_call 82; refine HP.out.mono ?_; rintro e w' ⟨rfl, hw⟩; obtain rfl := hw.symm) | (go_at_call 85; refine HTK.out.mono ?_; rintro e w' ⟨rfl, hw⟩; obtain rfl := hw.symm))
                go_quiet (fail)
                go_wp2_with fail
                go_ret2
                exact ⟨6, D', bkOf D', ps, by simp, HBACK.out _ _ _ _ HBK.out.drewN, .inl ⟨by decide, rfl, rfl⟩⟩
              · rcases hcase with ⟨rfl, hset, rfl⟩ | ⟨rfl, L, u, hset, hD⟩
                · have hsh := merge_short (hd.sk i hi) (rinv_told (b := false) (l := []) hit) hset
                  have HSH := hid (short_any p d D' (bkOf D') ps w1 HBK.out hsh)
                  have HSET := hid hset
                  clear hset
                  generalize hm : (D'.sks.getD i Hd.none).taken.length = m at *
                  go_wp2_with (first | (go_at_call 82; refine HP.out.mono ?_; rintro e w' ⟨rfl, hw⟩; obtain rfl := hw.symm) | (go_at_call 85; refine HTK.out.mono ?_; rintro e w' ⟨rfl, hw⟩; obtain rfl := hw.symm))
                  refine HSH.out.mono ?_
                  rintro e w' ⟨rfl, hw⟩
                  obtain rfl := hw.symm
                  go_wp2_with fail
                  go_ret2
                  exact bk_same (HBACK.out _ _ _ _ HBK.out) (by decide)
                · obtain ⟨z1, z2, z4, z5, z7, z8, z6⟩ := take_rel_ok hd hi h1 hit hrm h2 hset hD
                  have HSET := hid hset
                  have HZ := hid (And.intro z1 (And.intro z2 (And.intro z4 z5)))
                  have HZ6 := hid z6
                  have hilen : i < D'.sks.length := by rw [z2]; exact hi
                  have hok' := (z1.sk i hilen).ok
                  obtain ⟨F', hdk', _⟩ := HBK.out.desk
                  have HSZ := hid (fun (w' : World) (hb : Below w1.heap.size w1 w') => deskSize d D' i w' (hdk'.below hb) hilen hok')
                  generalize hm : (D.sks.getD i Hd.none).taken.length = m at *
                  generalize hn : wsum (D.sks.getD i Hd.none).sk.lv = n at *
                  generalize (D'.sks.getD i Hd.none).sk.k = kk at *
                  generalize nsum (D'.sks.getD i Hd.none).sk.lv = ns at *
                  generalize (D'.sks.getD i Hd.none).sk.lv.length = ll at *
                  generalize hn' : wsum (D'.sks.getD i Hd.none).sk.lv = n' at *
                  clear hset hD z1 z2 z4 z5 z6 hok' hdk'
                  go_wp2_with (first | (go_at_call 82; refine HP.out.mono ?_; rintro e w' ⟨rfl, hw⟩; obtain rfl := hw.symm) | (go_at_call 85; refine HTK.out.mono ?_; rintro e w' ⟨rfl, hw⟩; obtain rfl := hw.symm))
                  have hal : Below w1.heap.size w1 (w1.alloc (.cells #[.int .i64 0, .int .i64 0, .int .i64 0, .int .i64 0] 99)) := (Below.refl _ _).alloc (Nat.le_refl _) _
                  have hz0 := heap_alloc_new w1 (.cells #[.int .i64 0, .int .i64 0, .int .i64 0, .int .i64 0] 99 (0, 0))
                  have hzl : w1.heap.size < (w1.alloc (.cells #[.int .i64 0, .int .i64 0, .int .i64 0, .int .i64 0] 99)).heap.size := by simp
                  go_cut [9, 10] from 101 to 110 (fun s9 s10 wx => ∃ zb, s9 = .pointer (some ⟨zb, 0, none⟩) ∧ s10 = .int .i64 0 ∧ Below w1.heap.size w1 wx ∧ w1.heap.size ≤ zb ∧ wx.heap[zb]? = some (.cells #[.int .i64 (kk : Int), .int .i64 (n' : Int), .int .i64 (ns : Int), .int .i64 (ll : Int)] 99 (0, 0)))
                  case first =>
                    go_region_with (first | (go_at_call 42; refine (HSZ.out _ (bdrewT (Below.refl _ _))).mono ?_; rintro e w5 ⟨rfl, hb5⟩; have hB5 := undrew hb5) | (go_at_call 42; refine (HSZ.out _ (bdrewT hal)).mono ?_; rintro e w5 ⟨rfl, hb5⟩; have hB5 := undrew hb5; have hzb := (hB5.block w1.heap.size hzl).trans hz0; obtain ⟨y0, y1, y2, y3, yz⟩ := blk4 hzb))
                    all_goals
                      go_wp2_with fail
                      go_meet
                      first
                      | exact ⟨w5.heap.size, rfl, rfl, hB5.alloc hB5.size _, hB5.size, heap_alloc_new _ _⟩
                      | exact ⟨w1.heap.size, rfl, rfl, below_set4 (hal.trans (hB5.mono hal.size)) (Nat.le_refl _) _ _ _ _, Nat.le_refl _, set4_blk hzb⟩
                  case rest =>
                    obtain ⟨zb, rfl, rfl, hbx, hzz, hz⟩ := hcut
                    obtain ⟨y0, y1, y2, y3, yz⟩ := blk4 hz
                    have hzbz := lt_of_blk' hz
                    have g0' := (hbx.cell (p := ⟨ps i, 0, none⟩) hgz).trans g0
                    have gz' : ∀ o, wc.frozen? ⟨ps i, o, none⟩ = false := fun o => (hbx.frozen (p := ⟨ps i, o, none⟩) hgz).trans (gz o)
                    have hgzx : ps i < wc.heap.size := Nat.lt_of_lt_of_le hgz hbx.size
                    have hge : decide ((n : Int) ≤ (n' : Int)) = true := decide_eq_true (by omega)
                    have hle : decide ((n' : Int) ≤ 268435456) = true := decide_eq_true (by omega)
                    have HBX := hid (HBK.out.below hbx)
                    clear f0' f1' f2' f3' fz1 fp1 m0' m1' m2' m3' m4' mz' g0 g1 g2 g3 gz hbx hz hal hz0 hzl
                    go_upto_region 21 with fail
                    go_cut [11] from 111 to 126 (fun s11 wx => s11 = .bool true ∧ ∃ q, wx = wc.drewN q)
                    case first =>
                      go_quiet (fail)
                      all_goals
                        go_wp2_with fail
                        go_meet
                        exact ⟨by simp, _, rfl⟩
                    case rest =>
                      obtain ⟨hs11, q1, hwq⟩ := hcut
                      subst hs11 hwq
                      have h22 : BkSt (fun b => K b ∨ b = w.heap.size) wA ((wc.drewN q1).setCell ⟨ps i, 0, none⟩ (.int .i64 (n' : Int))) p d D' { bkOf D with pg := (bkOf D).pg.set i ⟨n', (D.sks.getD i Hd.none).sealed, sndL (D.sks.getD i Hd.none).taken, seqL (D.sks.getD i Hd.none).taken⟩ } ps := by
                        have e := (HBX.out.drewN (n := q1)).setN HPL.out n'
                        rw [bkOf_at D hi] at e
                        exact e
                      go_upto_region 23 with fail
                      generalize hw22 : (wc.drewN q1).setCell ⟨ps i, 0, none⟩ (.int .i64 (n' : Int)) = w22 at *
                      clear hw22
                      have hpl1 : i < ({ bkOf D with pg := (bkOf D).pg.set i ⟨n', (D.sks.getD i Hd.none).sealed, sndL (D.sks.getD i Hd.none).taken, seqL (D.sks.getD i Hd.none).taken⟩ } : Bk).pg.length := by show i < ((bkOf D).pg.set i _).length; rw [List.length_set]; exact HPL.out
                      obtain ⟨ao2, c2, r2, r3, r4, r5, r6, HG⟩ := h22.growX2 hpl1 _ (getD_set_pg HPL.out) (sndL (D.sks.getD i Hd.none).taken) rfl
                      rw [(sndL_len _).1, hm] at r2 r5 r6 HG
                      obtain ⟨l0, l1, l2, l3, l4, lz⟩ := blk5 ((h22.keeps.block w.heap.size (.inr rfl)).trans HBOX.out)
                      have hlz : w.heap.size < w22.heap.size := Nat.lt_of_lt_of_le (lt_of_blk' HBOX.out) h22.keeps.size
                      obtain ⟨i0, hi0, hz0, hz1, hz2⟩ := info_parts Try.infoInt
                      have hrow5 : w22.ownsRow 0 3 1 (.slice ao2 m c2) m (ints (sndL (D.sks.getD i Hd.none).taken)) := by
                        have e := r5
                        unfold Ints at e
                        rw [(sndL_len _).1, hm] at e
                        exact e
                      have HR5 := hid hrow5
                      have HG' := hid HG
                      have HN6 := hid r6
                      have hpgb : ∃ ob, w22.heap[ps i]? = some ob := by
                        have : ps i < w22.heap.size := r3
                        exact ⟨_, Array.getElem?_eq_getElem this⟩
                      obtain ⟨ob, hob⟩ := hpgb
                      have HML := hid hm
                      clear HG r5 r6 h22 hpl1 hrow5
                      go_cut [] from 132 to 142 (fun wx => BkSt (fun b => K b ∨ b = w.heap.size) wA wx p d D' { bkOf D with pg := (bkOf D).pg.set i ⟨n', (D.sks.getD i Hd.none).sealed, sndL (D.sks.getD i Hd.none).taken ++ [B], seqL (D.sks.getD i Hd.none).taken⟩ } ps)
                      case first =>
                        go_region_law ((refine step_append_lies _ (by rfl) (.tmp 136) (.tmp 139) 91 (by rfl) 0 3 i0 (.int .i64 0) 1 8 Try.underlying91 hi0 hz0 hz1 hz2 rfl (by decide) (.slice ao2 m c2) m (ints (sndL (D.sks.getD i Hd.none).taken)) (by rfl) (HR5.out.alloc _) ⟨w22.heap.size, 0, none⟩ 1 1 [.int .i64 B] (by rfl) rfl (one_new' (by simp) _ _) (one_cell _ _) (by decide) (by unfold maxLen; omega) (by omega) (Nat.zero_le _) (w22.heap.size + 1) (by simp) ?_; intro g5 cap5 w5 hown5 hgrow5 hat5 hlt5; have hq5 := (hgrow5.block (ps i) (by simp; omega) (Ne.symm HN6.out)).trans (Below.heap_alloc w22 _ (ps i) r3); have y2' := (cell_of_blk (o := 2) hq5).trans r2; have yf' := frozen_of_blk hq5 r4))
                        all_goals
                          go_wp2_with fail
                          go_meet
                          have e := HG'.out _ w5 g5 cap5 B (by have e := hown5; rw [show ints (sndL (D.sks.getD i Hd.none).taken ++ [B]) = ints (sndL (D.sks.getD i Hd.none).taken) ++ [.int .i64 B] by simp [ints]]; exact e) ⟨hgrow5.os, hgrow5.tape, hgrow5.output, hgrow5.size, hgrow5.block⟩ (hat5.imp id (fun e => by omega))
                          simp only [List.set_set] at e
                          exact e
                      case rest =>
                        have h23 := hcut
                        have hpl2 : i < ({ bkOf D with pg := (bkOf D).pg.set i ⟨n', (D.sks.getD i Hd.none).sealed, sndL (D.sks.getD i Hd.none).taken ++ [B], seqL (D.sks.getD i Hd.none).taken⟩ } : Bk).pg.length := by show i < ((bkOf D).pg.set i _).length; rw [List.length_set]; exact HPL.out
                        clear hcut r2 r3 r4 HR5 HG' HN6 hob l0 l1 l2 l3 l4 lz hlz
                        go_upto_region 24 with fail
                        obtain ⟨ao3, c3, r2, r3, r4, r5, r6, HG⟩ := h23.growW2 hpl2 _ (getD_set_pg HPL.out) (seqL (D.sks.getD i Hd.none).taken) rfl
                        rw [(sndL_len _).2, hm] at r2 r5 r6 HG
                        obtain ⟨l0, l1, l2, l3, l4, lz⟩ := blk5 ((h23.keeps.block w.heap.size (.inr rfl)).trans HBOX.out)
                        have hlz : w.heap.size < wc.heap.size := Nat.lt_of_lt_of_le (lt_of_blk' HBOX.out) h23.keeps.size
                        have hrow5 : wc.ownsRow 0 3 1 (.slice ao3 m c3) m (ints (seqL (D.sks.getD i Hd.none).taken)) := by
                          have e := r5
                          unfold Ints at e
                          rw [(sndL_len _).2, hm] at e
                          exact e
                        have HR5 := hid hrow5
                        have HG' := hid HG
                        have HN6 := hid r6
                        clear HG r5 r6 h23 hpl2 hrow5
                        go_cut [] from 143 to 153 (fun wx => BkSt (fun b => K b ∨ b = w.heap.size) wA wx p d D' { bkOf D with pg := (bkOf D).pg.set i ⟨n', (D.sks.getD i Hd.none).sealed, sndL (D.sks.getD i Hd.none).taken ++ [B], seqL (D.sks.getD i Hd.none).taken ++ [C]⟩ } ps)
                        case first =>
                          go_region_law ((refine step_append_lies _ (by rfl) (.tmp 147) (.tmp 150) 91 (by rfl) 0 3 i0 (.int .i64 0) 1 8 Try.underlying91 hi0 hz0 hz1 hz2 rfl (by decide) (.slice ao3 m c3) m (ints (seqL (D.sks.getD i Hd.none).taken)) (by rfl) (HR5.out.alloc _) ⟨wc.heap.size, 0, none⟩ 1 1 [.int .i64 C] (by rfl) rfl (one_new' (by simp) _ _) (one_cell _ _) (by decide) (by unfold maxLen; omega) (by omega) (Nat.zero_le _) (wc.heap.size + 1) (by simp) ?_; intro g5 cap5 w5 hown5 hgrow5 hat5 hlt5; have hq5 := (hgrow5.block (ps i) (by simp; omega) (Ne.symm HN6.out)).trans (Below.heap_alloc wc _ (ps i) r3); have y2' := (cell_of_blk (o := 3) hq5).trans r2; have yf' := frozen_of_blk hq5 r4))
                          all_goals
                            go_wp2_with fail
                            go_meet
                            have e := HG'.out _ w5 g5 cap5 C (by have e := hown5; rw [show ints (seqL (D.sks.getD i Hd.none).taken ++ [C]) = ints (seqL (D.sks.getD i Hd.none).taken) ++ [.int .i64 C] by simp [ints]]; exact e) ⟨hgrow5.os, hgrow5.tape, hgrow5.output, hgrow5.size, hgrow5.block⟩ (hat5.imp id (fun e => by omega))
                            simp only [List.set_set] at e
                            exact e
                        case rest =>
                          have h24 := hcut
                          have HZ7 := HZ6.out
                          rw [HZ7] at h24
                          have H24 := hid h24
                          clear hcut h24 HZ7
                          go_wp2_with fail
                          go_ret2
                          refine ⟨0, D', { bkOf D' with tape := D.tape.length }, ps, rfl, HBACK.out _ _ _ _ H24.out, .inr ⟨rfl, HZ.out.1, by rw [HZ.out.2.1]; exact Nat.le_refl _, fun j hj hne => HZ.out.2.2.2 j (fun e => hne (by rw [if_pos hkd, e])), by rw [if_pos hkd], fun _ => ⟨HZ.out.2.2.1, by omega⟩⟩⟩


end Go.Proofs.Ytklicjbpjigfdab
