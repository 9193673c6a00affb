/- DERIVED. The walk of the book's opened, where a sketch is begun. -/
import Derived.Test.YtklicjbpjigfdabQ21
namespace Go.Proofs.Ytklicjbpjigfdab
open Go.RowKit
attribute [local go_sem ↓] Go.wp_at_zero Go.wp_at_succ
variable {K : Nat → Prop} {w0 : World}

theorem Try.infoPageP : (Try.prog.info? 139).map (fun i => (i.zero, i.size, i.bytes)) = some (some (.pointer none), 1, 8) := by kernel_rfl
/-- The row of pages, and what an append to it leaves. -/
theorem BkSt.pushes {w : World} {p d : Nat} {D : Dk} {E : Bk} {ps : Nat → Nat} (h : BkSt K w0 w p d D E ps) (hm : E.pg.length < 8) : ∃ ao c, w.heap[p]? = some (bkBlk d (.slice ao E.pg.length c) E) ∧ w.ownsRow 0 139 1 (.slice ao E.pg.length c) E.pg.length (ptrs ps E.pg.length) ∧ Value.ownBlock (.slice ao E.pg.length c) ≠ some p ∧
    ∀ (wx w2 : World) (q g2 cap2 : Nat), Below w.heap.size w wx → w.heap.size ≤ q → wx.heap[q]? = some (.cells #[.int .i64 0, .bool false, .slice none 0 0, .slice none 0 0] 141 (0, 0)) → w2.ownsRow 0 139 1 (.slice (some ⟨g2, 0, none⟩) (E.pg.length + 1) cap2) (E.pg.length + 1) (ptrs ps E.pg.length ++ [.pointer (some ⟨q, 0, none⟩)]) → wx.grownBy w2 (Value.ownBlock (.slice ao E.pg.length c)) → (Value.ownBlock (.slice ao E.pg.length c) = some g2 ∨ w.heap.size ≤ g2) →
      BkSt K w0 (w2.setCell ⟨p, 3, none⟩ (.slice (some ⟨g2, 0, none⟩) (E.pg.length + 1) cap2)) p d D { E with pg := E.pg ++ [Pg.none] } (psOpen ps E.pg.length q) := by
  obtain ⟨own, vs, vx, vw, h, h2K, hk⟩ := h
  have hform : ∃ ao c, vs = .slice ao E.pg.length c := by
    rcases h.row.2 with ⟨e, hn⟩ | ⟨g, cap, cur, e, _⟩
    · exact ⟨none, 0, by rw [e, hn]⟩
    · exact ⟨_, _, e⟩
  obtain ⟨ao, c, ev⟩ := hform
  have hb := h.blk
  have hr := h.row
  have hne : vs.ownBlock ≠ some p := by
    intro e
    obtain ⟨c', hc'⟩ := ownsRow_blk h.row e
    rw [h.blk] at hc'; cases hc'
  refine ⟨ao, c, by rw [← ev]; exact hb, by rw [← ev]; exact hr, by rw [← ev]; exact hne, ?_⟩
  intro wx w2 q g2 cap2 hx hq hs hown hgrow hat
  rw [← ev] at hgrow hat
  exact h.push hm h2K hk hx hq hs hown hgrow hat
theorem bkOf_push {D : Dk} {x : Hd} {n : Nat} (hx : pgOf x = { Pg.none with n := n }) : ({ bkOf D with pg := (bkOf D).pg ++ [{ Pg.none with n := n }] } : Bk) = bkOf { D with sks := D.sks ++ [x] } := by
  simp [bkOf, hx]
theorem DInv.push {D : Dk} {x : Hd} (hd : DInv D) (hl : D.sks.length < D.room) (hr : RInv x) (ht : x.taken.length ≤ 64) : DInv { D with sks := D.sks ++ [x] } := by
  have hat : ∀ j, j < (D.sks ++ [x]).length → (D.sks ++ [x]).getD j Hd.none = if j = D.sks.length then x else D.sks.getD j Hd.none := by
    intro j hj
    by_cases e : j = D.sks.length
    · subst e; rw [if_pos rfl]; simp [List.getD]
    · rw [if_neg e]
      have hj' : j < D.sks.length := by simp at hj; omega
      simp [List.getD, List.getElem?_append, hj']
  refine ⟨hd.room1, hd.room2, by show (D.sks ++ [x]).length ≤ D.room; simp; omega, hd.tape, fun j hj => ?_, fun j hj => ?_⟩
  all_goals
    have hj1 : j < (D.sks ++ [x]).length := hj
    show _
    simp only [hat j hj1]
    by_cases e : j = D.sks.length
    · rw [if_pos e]; assumption
    · rw [if_neg e]
      have hj' : j < D.sks.length := by simp at hj1; omega
      first
      | exact hd.sk j hj'
      | exact hd.tk j hj'

set_option maxHeartbeats 4000000 in
set_option maxRecDepth 100000 in
theorem opened_new (p d : Nat) (kd A B C : Int) (t : ByteArray) (D : Dk) (ps : Nat → Nat) (w : World) (h : BkSt K w0 w p d D (bkOf D) ps) (hd : DInv D) (hkd : kd = 1) :
    Calls Try.prog 58 #[.pointer (some ⟨p, 0, none⟩), .agg #[.int .i64 kd, .int .i64 A, .int .i64 B, .int .i64 C, .string t]] w fun e w' => CallPost K w0 p d kd A D e w' := by
  have hno : ¬ onOne kd := by rw [hkd]; unfold onOne; omega
  obtain ⟨hbx, hkx⟩ := h.boxed (clBlk kd A B C t)
  have hkl := h.kl
  have HBOX := hid (heap_alloc_new w (clBlk kd A B C t))
  have hxz : w.heap.size < (w.alloc (clBlk kd A B C t)).heap.size := by simp
  obtain ⟨F, hdk, hstep⟩ := hbx.desk
  have HCALL := hid (fun (w' : World) (hb : Below (w.alloc (clBlk kd A B C t)).heap.size (w.alloc (clBlk kd A B C t)) w') => (openT d A D w' (hdk.below hb) hd).mono (fun e w'' (hh : ∃ v c D', e = .returned (.tuple #[.int .i64 v, .int .i64 c]) ∧ DeskStep F w' w'' d D' ∧ OpenRel A D v c D') => (by obtain ⟨v, c, D', h1, h2, h3⟩ := hh; exact ⟨v, c, D', h1, hstep w'' D' (h2.later hb), h3⟩ : ∃ v c D', e = .returned (.tuple #[.int .i64 v, .int .i64 c]) ∧ BkSt (fun b => K b ∨ b = w.heap.size) (w.alloc (clBlk kd A B C t)) w'' p d D' (bkOf D) ps ∧ OpenRel A D v c D')))
  obtain ⟨ao0, cc0, f0, _, _, f3, hpz, _, _⟩ := hbx.facts
  obtain ⟨m0, m1, m2, m3, m4, mz⟩ := blk5 HBOX.out
  have HKX := hid hkx
  have HKL := hid hkl
  rw [bkOf_len] at f3
  have hlr := hd.len
  have hr8 := hd.room2
  obtain ⟨i0, hi0, hz0, hz1, hz2⟩ := info_parts Try.infoPageP
  clear hbx hkx hdk hstep h hkl
  subst hkd
  go_enter Try.func58, Try.ntmps58
  go_wp2_with fail
  generalize hwA : w.alloc (clBlk 1 A B C t) = wA at *
  have HWA := hid hwA
  clear hwA
  go_region_held3 (fun w' => w'.cell? ⟨p, 0, none⟩ = some (.pointer (some ⟨d, 0, none⟩)) ∧ w'.cell? ⟨w.heap.size, 1, none⟩ = some (.int .i64 A)) (first | go_keep | exact ⟨f0', m1'⟩) (first | (go_at_call 20; refine (HCALL.out _ (bdrewT (Below.refl _ _))).mono ?_; rintro e w1 ⟨v, c, D', rfl, hbk, hrel⟩; obtain ⟨ao1, cc1, f0', f1', f2', f3', hpz1, fz1, fp1⟩ := hbk.facts; obtain ⟨m0', m1', m2', m3', m4', mz'⟩ := blk5 ((hbk.keeps.block w.heap.size (.inr rfl)).trans HBOX.out)))
  have HBK := hid hbk
  have hxz1 : w.heap.size < w1.heap.size := Nat.lt_of_lt_of_le hxz hbk.keeps.size
  have HBACK : Hid (∀ (w' : World) (D' : Dk) (E' : Bk) (ps' : Nat → Nat), BkSt (fun b => K b ∨ b = w.heap.size) wA w' p d D' E' ps' → BkSt K w0 w' p d D' E' ps') := fun w' D' E' ps' hh => hh.back (fun b hb => .inl hb) HKL.out HKX.out
  change w1.cell? ⟨p, 1, none⟩ = some (.int .i64 (D.room : Int)) at f1'
  clear f0 f3 m0 m1 m2 m3 m4 mz HCALL hpz hxz hbk fp1
  rcases hrel with ⟨rfl, rfl, hk, rfl⟩ | ⟨hk, hcase⟩
  · by_cases hk2 : A < 2
    · clear hk
      go_wp2_with fail
      go_ret2
      exact bk_same (HBACK.out _ _ _ _ HBK.out) (by decide)
    · have hk3 : 64 < A := by omega
      clear hk
      go_wp2_with fail
      go_ret2
      exact bk_same (HBACK.out _ _ _ _ HBK.out) (by decide)
  · have hka := hk.1
    have hkb := hk.2
    rcases hcase with ⟨rfl, rfl, hr, rfl⟩ | ⟨hr, rfl, rfl, hDD⟩
    · have e8 : ((D'.sks.length : Int) == (D'.room : Int)) = true := by simp; omega
      generalize D'.sks.length = m at *
      generalize D'.room = rm at *
      go_wp2_with fail
      go_ret2
      exact bk_same (HBACK.out _ _ _ _ HBK.out) (by decide)
    · have e8 : ((D.sks.length : Int) == (D.room : Int)) = false := by rw [beq_eq_false_iff_ne]; omega
      have hpl8 : (bkOf D).pg.length < 8 := by rw [bkOf_len]; omega
      obtain ⟨ao3, c3, hpb, hprow, hpne, HPUSH⟩ := HBK.out.pushes hpl8
      rw [bkOf_len] at hpb hprow hpne HPUSH
      obtain ⟨x0, x1, x2, x3, xz⟩ := blk4 hpb
      have HPB := hid hpb
      have HROW := hid hprow
      have HPN := hid hpne
      have HPU := hid HPUSH
      clear hpb hprow hpne HPUSH hpl8 f3' x0 x1 x2 xz
      generalize hm : D.sks.length = m at *
      generalize hrm : D.room = rm at *
      go_wp2_with (first | (at_builtin; refine wpList_append_lies _ rfl (.tmp 66) (.tmp 69) 58 rfl 0 139 i0 (.pointer none) 1 8 Try.underlying58 hi0 hz0 hz1 hz2 rfl (by decide) (.slice ao3 m c3) m (ptrs ps m) rfl ((HROW.out.alloc _).alloc _) ⟨w1.heap.size + 1, 0, none⟩ 1 1 [.pointer (some ⟨w1.heap.size, 0, none⟩)] rfl rfl (one_new' (by simp) _ _) (one_ptr _) (by decide) (by unfold maxLen; omega) (by omega) (Nat.zero_le _) (w1.heap.size + 2) (by simp) ?_; intro g2 cap2 w2 hown2 hgrow2 hat2 hlt2; have hq2 := (hgrow2.block p (by simp; omega) (fun e => HPN.out e.symm)).trans ((Below.heap_alloc _ _ p (by simp; omega)).trans ((Below.heap_alloc w1 _ p hpz1).trans HPB.out)); obtain ⟨q0, q1, q2, q3, qz⟩ := blk4 hq2; have HST2 := hid (HPU.out ((w1.alloc (.cells #[.int .i64 0, .bool false, .slice none 0 0, .slice none 0 0] 141)).alloc (.cells #[.pointer (some ⟨w1.heap.size, 0, none⟩)] 139)) w2 w1.heap.size g2 cap2 (((Below.refl _ _).alloc (Nat.le_refl _) _).alloc (by simp) _) (Nat.le_refl _) (by rw [Below.heap_alloc _ _ _ (by simp)]; exact heap_alloc_new _ _) hown2 hgrow2 (hat2.imp id (fun e => by omega))); clear hown2 hgrow2 hat2 hq2))
      all_goals
        have hst2 := HST2.out
        have hE2 : ({ bkOf D with pg := (bkOf D).pg ++ [Pg.none] } : Bk) = bkOf D' := by
          have hpg : pgOf (Hd.begun A.toNat) = Pg.none := rfl
          rw [hDD]
          simp [bkOf, hpg, hrm]
        rw [hE2] at hst2
        generalize hw3 : w2.setCell ⟨p, 3, none⟩ (.slice (some ⟨g2, 0, none⟩) (m + 1) cap2) = w3 at *
        have hml : m < D'.sks.length := by rw [hDD]; show m < (D.sks ++ [_]).length; simp [hm]
        have hgm : D'.sks.getD m Hd.none = Hd.begun A.toNat := by rw [hDD]; show (D.sks ++ [_]).getD m Hd.none = _; rw [← hm]; simp [List.getD]
        have hkk : 2 ≤ A.toNat ∧ A.toNat ≤ 64 := by omega
        have hri := rinv_begun A.toNat hkk.1 hkk.2
        obtain ⟨F3, hd3, _⟩ := hst2.desk
        have hsz := deskSize d D' m w3 hd3 hml (by rw [hgm]; exact hri.ok)
        rw [hgm] at hsz
        have HSZ : Hid (Calls Try.prog 42 #[.pointer (some ⟨d, 0, none⟩), .int .i64 (m : Int)] w3 fun e w' => e = .returned (.tuple #[.agg #[.int .i64 A, .int .i64 0, .int .i64 0, .int .i64 1], .int .i64 0]) ∧ Below w3.heap.size w3 w') := by
          have e := hsz
          rw [show ((Hd.begun A.toNat).sk.k : Int) = A by show ((A.toNat : Nat) : Int) = A; omega] at e
          exact e
        have HINV : Hid (DInv D') := by
          have e := hd.push (x := Hd.begun A.toNat) (by rw [hm, hrm]; exact hr) hri (by show ([] : List (Nat × Nat)).length ≤ 64; decide)
          rw [hrm] at e
          rw [hDD]
          exact e
        obtain ⟨l0, l1, l2, l3, l4, lz⟩ := blk5 ((hst2.keeps.block w.heap.size (.inr rfl)).trans HBOX.out)
        have hlz : w.heap.size < w3.heap.size := Nat.lt_of_lt_of_le (lt_of_blk' HBOX.out) hst2.keeps.size
        have HS2 := hid hst2
        clear hst2 hsz hd3 HST2 hw3 hE2
        refine HSZ.out.mono ?_
        rintro e w4 ⟨rfl, hb4⟩
        have k1 := (hb4.cell (p := ⟨w.heap.size, 1, none⟩) hlz).trans l1
        have hlz4 : w.heap.size < w4.heap.size := Nat.lt_of_lt_of_le hlz hb4.size
        have HB4 := hid hb4
        clear hb4 HSZ
        go_wp2_with fail
        go_quiet (fail)
        go_wp2_with fail
        go_ret2
        have hfin := HBACK.out _ _ _ _ (HS2.out.below (below_drewN (HB4.out.alloc HB4.out.size (.cells #[.int .i64 A, .int .i64 0, .int .i64 0, .int .i64 1] 99)) nq))
        refine ⟨0, D', bkOf D', _, by simp, hfin, .inr ⟨rfl, HINV.out, ?_, ?_, ?_, fun h => absurd h hno⟩⟩
        · rw [hDD]; show D.sks.length ≤ (D.sks ++ [_]).length; simp
        · intro j hj _
          rw [hDD]
          show ((D.sks ++ [_]).getD j Hd.none).sk = _
          simp [List.getD, List.getElem?_append, hj]
        · rw [if_neg hno]; rfl

end Go.Proofs.Ytklicjbpjigfdab
