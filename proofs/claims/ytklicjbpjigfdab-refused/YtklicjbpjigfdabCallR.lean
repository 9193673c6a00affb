/- DERIVED. The walk of the book's opened, where a text is read. -/
import Derived.Test.YtklicjbpjigfdabCallN
namespace Go.Proofs.Ytklicjbpjigfdab
open Go.RowKit
attribute [local go_sem ↓] Go.wp_at_zero Go.wp_at_succ
variable {K : Nat → Prop} {w0 : World}

theorem written_back {t : ByteArray} (h : isText (bytesOf t) = true) : txt (writeB (toldS (bytesOf t))) = t := by
  rw [(isText_fits (bytesOf_lt t) h).2, txt_bytesOf]

set_option maxHeartbeats 4000000 in
set_option maxRecDepth 100000 in
theorem opened_read (p d : Nat) (kd A B C : Int) (t : ByteArray) (D : Dk) (ps : Nat → Nat) (w : World) (h : BkSt K w0 w p d D (bkOf D) ps) (hd : DInv D) (hkd : kd ≠ 1) (hno : ¬ onOne kd) (ht : t.size ≤ 140737488355328) :
    Calls Try.prog 58 #[.pointer (some ⟨p, 0, none⟩), .agg #[.int .i64 kd, .int .i64 A, .int .i64 B, .int .i64 C, .string t]] w fun e w' => CallPost K w0 p d kd A D e w' := by
  have hkd' : (kd == 1) = false := by simpa using hkd
  obtain ⟨hbx, hkx⟩ := h.boxed (clBlk kd A B C t)
  have hkl := h.kl
  have HBOX := hid (heap_alloc_new w (clBlk kd A B C t))
  have hxz : w.heap.size < (w.alloc (clBlk kd A B C t)).heap.size := by simp
  obtain ⟨F, hdk, hstep⟩ := hbx.desk
  have HCALL := hid (fun (w' : World) (hb : Below (w.alloc (clBlk kd A B C t)).heap.size (w.alloc (clBlk kd A B C t)) w') => (decodeT d t D w' (hdk.below hb) hd ht).mono (fun e w'' (hh : ∃ v c D', e = .returned (.tuple #[.int .i64 v, .int .i64 c]) ∧ DeskStep F w' w'' d D' ∧ DecodeRel t D v c D') => (by obtain ⟨v, c, D', h1, h2, h3⟩ := hh; exact ⟨v, c, D', h1, hstep w'' D' (h2.later hb), h3⟩ : ∃ v c D', e = .returned (.tuple #[.int .i64 v, .int .i64 c]) ∧ BkSt (fun b => K b ∨ b = w.heap.size) (w.alloc (clBlk kd A B C t)) w'' p d D' (bkOf D) ps ∧ DecodeRel t D v c D')))
  obtain ⟨ao0, cc0, f0, _, _, f3, hpz, _, _⟩ := hbx.facts
  obtain ⟨m0, m1, m2, m3, m4, mz⟩ := blk5 HBOX.out
  have HKX := hid hkx
  have HKL := hid hkl
  rw [bkOf_len] at f3
  have hlr := hd.len
  have hr8 := hd.room2
  obtain ⟨i0, hi0, hz0, hz1, hz2⟩ := info_parts Try.infoPageP
  clear hbx hkx hdk hstep h hkl
  go_enter Try.func58, Try.ntmps58
  go_wp2_with fail
  generalize hwA : w.alloc (clBlk kd A B C t) = wA at *
  have HWA := hid hwA
  clear hwA
  go_region_held3 (fun w' => w'.cell? ⟨p, 0, none⟩ = some (.pointer (some ⟨d, 0, none⟩)) ∧ w'.cell? ⟨w.heap.size, 4, none⟩ = some (.string t)) (first | go_keep | exact ⟨f0', m4'⟩) (first | (go_at_call 11; refine (HCALL.out _ (bdrewT (Below.refl _ _))).mono ?_; rintro e w1 ⟨v, c, D', rfl, hbk, hrel⟩; obtain ⟨ao1, cc1, f0', f1', f2', f3', hpz1, fz1, fp1⟩ := hbk.facts; obtain ⟨m0', m1', m2', m3', m4', mz'⟩ := blk5 ((hbk.keeps.block w.heap.size (.inr rfl)).trans HBOX.out)))
  have HBK := hid hbk
  have hxz1 : w.heap.size < w1.heap.size := Nat.lt_of_lt_of_le hxz hbk.keeps.size
  have HBACK : Hid (∀ (w' : World) (D' : Dk) (E' : Bk) (ps' : Nat → Nat), BkSt (fun b => K b ∨ b = w.heap.size) wA w' p d D' E' ps' → BkSt K w0 w' p d D' E' ps') := fun w' D' E' ps' hh => hh.back (fun b hb => .inl hb) HKL.out HKX.out
  change w1.cell? ⟨p, 1, none⟩ = some (.int .i64 (D.room : Int)) at f1'
  clear f0 f3 m0 m1 m2 m3 m4 mz HCALL hpz hxz hbk fp1
  rcases hrel with ⟨rfl, rfl, hk, rfl⟩ | ⟨hk, hcase⟩
  · go_wp2_with fail
    go_quiet (fail)
    all_goals
      go_wp2_with fail
      go_ret2
      exact ⟨9, D', bkOf D', ps, by simp, HBACK.out _ _ _ _ HBK.out.drewN, .inl ⟨by decide, rfl, rfl⟩⟩
  · rcases hcase with ⟨rfl, rfl, hr, rfl⟩ | ⟨hr, rfl, rfl, hDD⟩
    · have e8 : ((D'.sks.length : Int) == (D'.room : Int)) = true := by simp; omega
      have e9 : D'.sks.length = D'.room := by omega
      generalize D'.sks.length = m at *
      generalize D'.room = rm at *
      subst e9
      go_wp2_with fail
      go_quiet (fail)
      all_goals
        go_wp2_with fail
        go_ret2
        exact ⟨3, D', bkOf D', ps, by simp, HBACK.out _ _ _ _ HBK.out.drewN, .inl ⟨by decide, rfl, rfl⟩⟩
    · have e8 : decide ((D.sks.length : Int) < (D.room : Int)) = true := decide_eq_true (by omega)
      have hpl8 : (bkOf D).pg.length < 8 := by rw [bkOf_len]; omega
      obtain ⟨ao3, c3, hpb, hprow, hpne, HPUSH⟩ := HBK.out.pushes hpl8
      rw [bkOf_len] at hpb hprow hpne HPUSH
      obtain ⟨x0, x1, x2, x3, xz⟩ := blk4 hpb
      have HPB := hid hpb
      have HROW := hid hprow
      have HPN := hid hpne
      have HPU := hid HPUSH
      clear hpb hprow hpne HPUSH hpl8 f3' x0 x1 x2 xz
      generalize hm : D.sks.length = m at *
      generalize hrm : D.room = rm at *
      go_wp2_with (first | (at_builtin; refine wpList_append_lies _ rfl (.tmp 151) (.tmp 154) 58 rfl 0 139 i0 (.pointer none) 1 8 Try.underlying58 hi0 hz0 hz1 hz2 rfl (by decide) (.slice ao3 m c3) m (ptrs ps m) rfl ((HROW.out.alloc _).alloc _) ⟨w1.heap.size + 1, 0, none⟩ 1 1 [.pointer (some ⟨w1.heap.size, 0, none⟩)] rfl rfl (one_new' (by simp) _ _) (one_ptr _) (by decide) (by unfold maxLen; omega) (by omega) (Nat.zero_le _) (w1.heap.size + 2) (by simp) ?_; intro g2 cap2 w2 hown2 hgrow2 hat2 hlt2; have hq2 := (hgrow2.block p (by simp; omega) (fun e => HPN.out e.symm)).trans ((Below.heap_alloc _ _ p (by simp; omega)).trans ((Below.heap_alloc w1 _ p hpz1).trans HPB.out)); obtain ⟨q0, q1, q2, q3, qz⟩ := blk4 hq2; have HST2 := hid (HPU.out ((w1.alloc (.cells #[.int .i64 0, .bool false, .slice none 0 0, .slice none 0 0] 141)).alloc (.cells #[.pointer (some ⟨w1.heap.size, 0, none⟩)] 139)) w2 w1.heap.size g2 cap2 (((Below.refl _ _).alloc (Nat.le_refl _) _).alloc (by simp) _) (Nat.le_refl _) (by rw [Below.heap_alloc _ _ _ (by simp)]; exact heap_alloc_new _ _) hown2 hgrow2 (hat2.imp id (fun e => by omega))); clear hown2 hgrow2 hat2 hq2))
      all_goals
        have hst2 := HST2.out
        generalize hw3 : w2.setCell ⟨p, 3, none⟩ (.slice (some ⟨g2, 0, none⟩) (m + 1) cap2) = w3 at *
        have hml : m < D'.sks.length := by rw [hDD]; show m < (D.sks ++ [_]).length; simp [hm]
        have hgm : D'.sks.getD m Hd.none = ⟨toldS (bytesOf t), false, []⟩ := by rw [hDD]; show (D.sks ++ [_]).getD m Hd.none = _; rw [← hm]; simp [List.getD]
        have hri := rinv_told (b := false) (l := []) hk
        obtain ⟨F3, hd3, _⟩ := hst2.desk
        have hen := encode_any d D' m w3 hd3 hml (by rw [hgm]; exact hri.ok)
        rw [hgm, written_back hk] at hen
        have HEN := hid hen
        have HSZ := hid (fun (w' : World) (hb : Below w3.heap.size w3 w') => deskSize d D' m w' (hd3.below hb) hml (by rw [hgm]; exact hri.ok))
        rw [hgm] at HSZ
        have HINV : Hid (DInv D') := by
          have e := hd.push (x := ⟨toldS (bytesOf t), false, []⟩) (by rw [hm, hrm]; exact hr) hri (by show ([] : List (Nat × Nat)).length ≤ 64; decide)
          rw [hrm] at e
          rw [hDD]
          exact e
        have HS2 := hid hst2
        have hEl : ({ bkOf D with pg := (bkOf D).pg ++ [Pg.none] } : Bk).pg.length = m + 1 := by show ((bkOf D).pg ++ [Pg.none]).length = m + 1; rw [List.length_append, bkOf_len, hm]; rfl
        have hEm : m < ({ bkOf D with pg := (bkOf D).pg ++ [Pg.none] } : Bk).pg.length := by rw [hEl]; omega
        have hps : psOpen ps m w1.heap.size m = w1.heap.size := by simp [psOpen]
        have HSN : Hid (∀ w' : World, Below w3.heap.size w3 w' → BkSt (fun b => K b ∨ b = w.heap.size) wA (w'.setCell ⟨w1.heap.size, 0, none⟩ (.int .i64 (wsum (toldS (bytesOf t)).lv : Int))) p d D' (bkOf D') (psOpen ps m w1.heap.size)) := fun w' hb => by
          have e := (hst2.below hb).setN hEm (wsum (toldS (bytesOf t)).lv)
          rw [hps] at e
          have hE3 : ({ bkOf D with pg := ((bkOf D).pg ++ [Pg.none]).set m { ((bkOf D).pg ++ [Pg.none]).getD m Pg.none with n := wsum (toldS (bytesOf t)).lv } } : Bk) = bkOf D' := by
            have hpg : pgOf ⟨toldS (bytesOf t), false, []⟩ = ⟨wsum (toldS (bytesOf t)).lv, false, [], []⟩ := rfl
            have hl0 : (bkOf D).pg.length = m := by rw [bkOf_len, hm]
            have hg0 : ((bkOf D).pg ++ [Pg.none]).getD m Pg.none = Pg.none := by rw [← hl0]; simp [List.getD]
            have hs0 : ∀ x : Pg, ((bkOf D).pg ++ [Pg.none]).set m x = (bkOf D).pg ++ [x] := fun x => by
              rw [List.set_append_right _ _ (by omega), hl0]; simp
            rw [hg0, hs0, hDD]
            simp [bkOf, hpg, hrm, Pg.none]
          exact Eq.mp (congrArg (fun E => BkSt (fun b => K b ∨ b = w.heap.size) wA _ p d D' E _) hE3) e
        obtain ⟨ao4, c4, s0, s1, s2, s3, hpz3, sz, hsp⟩ := hst2.facts
        obtain ⟨gg, eao, hgg, hgc⟩ := hsp m hEm
        rw [hps] at hgc
        rw [hEl, eao] at s3
        change w3.cell? ⟨p, 1, none⟩ = some (.int .i64 ((bkOf D).room : Int)) at s1
        change w3.cell? ⟨p, 1, none⟩ = some (.int .i64 (D.room : Int)) at s1
        rw [hrm] at s1
        obtain ⟨vx3, vw3, n0, _, _, _, _, _, hqz3, nz⟩ := hst2.pgFacts hEm
        rw [hps] at n0 hqz3 nz
        obtain ⟨l0, l1, l2, l3, l4, lz⟩ := blk5 ((hst2.keeps.block w.heap.size (.inr rfl)).trans HBOX.out)
        have hlz : w.heap.size < w3.heap.size := Nat.lt_of_lt_of_le (lt_of_blk' HBOX.out) hst2.keeps.size
        generalize hqq : w1.heap.size = qq at *
        generalize wsum (toldS (bytesOf t)).lv = n' at *
        clear hst2 hen hd3 HST2 hw3 hsp q0 q3 qz
        refine HEN.out.mono ?_
        rintro e w4 ⟨rfl, hb4⟩
        have HB4 := hid hb4
        have k0 := (hb4.cell (p := ⟨p, 0, none⟩) hpz3).trans s0
        have HSZ4 := hid (HSZ.out w4 hb4)
        clear hb4 HEN
        go_wp2_with fail
        refine HSZ4.out.mono ?_
        rintro e w5 ⟨rfl, hb5⟩
        have hB5 := HB4.out.trans (hb5.mono HB4.out.size)
        have HB5 := hid hB5
        have j1 := (hB5.cell (p := ⟨p, 1, none⟩) hpz3).trans s1
        have j3 := (hB5.cell (p := ⟨p, 3, none⟩) hpz3).trans s3
        have jg := (hB5.cell (p := ⟨gg, m, none⟩) hgg).trans hgc
        have jn := (hB5.cell (p := ⟨qq, 0, none⟩) hqz3).trans n0
        have jz : w5.frozen? ⟨qq, 0, none⟩ = false := (hB5.frozen (p := ⟨qq, 0, none⟩) hqz3).trans (nz 0)
        have jl := (hB5.cell (p := ⟨w.heap.size, 4, none⟩) hlz).trans l4
        have jpz : p < w5.heap.size := Nat.lt_of_lt_of_le hpz3 hB5.size
        have jgz : gg < w5.heap.size := Nat.lt_of_lt_of_le hgg hB5.size
        have jqz : qq < w5.heap.size := Nat.lt_of_lt_of_le hqz3 hB5.size
        have jlz : w.heap.size < w5.heap.size := Nat.lt_of_lt_of_le hlz hB5.size
        have hs1 : (0 : Int) ≤ (m : Int) := by omega
        have hs2 : (m : Int) < (m : Int) + 1 := by omega
        clear hb5 hB5 HSZ4 HSZ
        go_wp2_with fail
        go_region_with fail
        all_goals
          have hst7 := HSN.out w5 HB5.out
          generalize hw7 : w5.setCell ⟨qq, 0, none⟩ (.int .i64 (n' : Int)) = w7 at *
          clear hw7
          obtain ⟨ao7, c7, a0, a1, a2, a3, hpz7, az, _⟩ := hst7.facts
          have a1' : w7.cell? ⟨p, 1, none⟩ = some (.int .i64 (rm : Int)) := by rw [a1, hDD]; rfl
          obtain ⟨b0, b1, b2, b3, b4, bz⟩ := blk5 ((hst7.keeps.block w.heap.size (.inr rfl)).trans HBOX.out)
          have hbz7 : w.heap.size < w7.heap.size := Nat.lt_of_lt_of_le (lt_of_blk' HBOX.out) hst7.keeps.size
          have HS7 := hid hst7
          clear hst7 a1 j1 j3 jg jn jz jl
          go_wp2_with fail
          go_quiet (fail)
          all_goals
            go_wp2_with fail
            go_ret2
            refine ⟨0, D', bkOf D', _, by simp, HBACK.out _ _ _ _ (HS7.out.below ?hbel), .inr ⟨rfl, HINV.out, ?_, ?_, ?_, fun h => absurd h hno⟩⟩
            case hbel => exact below_drewN (bdrewT ((Below.refl _ _).alloc (Nat.le_refl _) _)) _
            · rw [hDD]; show D.sks.length ≤ (D.sks ++ [_]).length; simp
            · intro j hj _
              rw [hDD]
              show ((D.sks ++ [_]).getD j Hd.none).sk = _
              simp [List.getD, List.getElem?_append, hj]
            · rw [if_neg hno]; rfl

end Go.Proofs.Ytklicjbpjigfdab
