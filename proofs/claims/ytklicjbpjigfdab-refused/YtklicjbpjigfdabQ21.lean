/- DERIVED. The walks of the book's calls: sealed, added. -/
import Derived.Test.YtklicjbpjigfdabQ12
import Derived.Test.YtklicjbpjigfdabQ20
import Derived.Deep.RegionHeld3
namespace Go.Proofs.Ytklicjbpjigfdab
open Go.RowKit
attribute [local go_sem ↓] Go.wp_at_zero Go.wp_at_succ
variable {K : Nat → Prop} {w0 : World}

/-- Is it a call that is about one sketch? -/
abbrev onOne (kd : Int) : Prop := kd = 2 ∨ kd = 3 ∨ kd = 6
/-- What a call leaves. -/
def CallRel (kd A : Int) (D : Dk) (c : Int) (D' : Dk) (E' : Bk) : Prop :=
  (c ≠ 0 ∧ D' = D ∧ E' = bkOf D) ∨
  (c = 0 ∧ DInv D' ∧ D.sks.length ≤ D'.sks.length ∧ (∀ i, i < D.sks.length → (i : Int) ≠ (if onOne kd then A else -1) → (D'.sks.getD i Hd.none).sk = (D.sks.getD i Hd.none).sk) ∧
    E' = { bkOf D' with tape := if onOne kd then D.tape.length else D'.tape.length } ∧ (onOne kd → D'.tape.length ≤ D.tape.length ∧ 0 ≤ A))
/-- What a call of the book answers. -/
def CallPost (K : Nat → Prop) (w0 : World) (p d : Nat) (kd A : Int) (D : Dk) (e : Ending) (w' : World) : Prop :=
  ∃ c D' E' ps', e = .returned (.tuple #[.int .i64 c, .bool true]) ∧ BkSt K w0 w' p d D' E' ps' ∧ CallRel kd A D c D' E'

abbrev clBlk (kd A B C : Int) (t : ByteArray) : Obj := .cells #[.int .i64 kd, .int .i64 A, .int .i64 B, .int .i64 C, .string t] 67 (0, 0)
/-- The call lies in a block of its own. -/
theorem BkSt.boxed {w : World} {p d : Nat} {D : Dk} {E : Bk} {ps : Nat → Nat} (h : BkSt K w0 w p d D E ps) (o : Obj) : BkSt (fun b => K b ∨ b = w.heap.size) (w.alloc o) (w.alloc o) p d D E ps ∧ Keeps K w0 (w.alloc o) := by
  have h1 := h.fresh (w2 := w.alloc o) ((Below.refl w.heap.size w).alloc (Nat.le_refl _) _)
  refine ⟨?_, h1.2⟩
  obtain ⟨own, vs, vx, vw, h, h2K, hk⟩ := h1.1
  exact ⟨own, vs, vx, vw, h, fun b hb => h2K b (hb.imp id (fun e => by subst e; simp)), Keeps.refl _ _⟩
theorem DeskStep.later {F : Nat → Prop} {w w1 w2 : World} {d : Nat} {D' : Dk} (hb : Below w.heap.size w w1) (h : DeskStep F w1 w2 d D') : DeskStep F w w2 d D' := by
  obtain ⟨F', h1, h2, h3⟩ := h
  refine ⟨F', h1, fun b e => (h2 b e).imp id (fun h => Nat.le_trans hb.size h), (Fr.below hb).trans h3 (fun _ _ h => h)⟩

theorem bk_same {w : World} {p d : Nat} {D : Dk} {ps : Nat → Nat} {kd A c : Int} (h : BkSt K w0 w p d D (bkOf D) ps) (hc : c ≠ 0) : ∃ c' D' E' ps', Ending.returned (.tuple #[.int .i64 c, .bool true]) = .returned (.tuple #[.int .i64 c', .bool true]) ∧ BkSt K w0 w p d D' E' ps' ∧ CallRel kd A D c' D' E' :=
  ⟨c, D, bkOf D, ps, rfl, h, .inl ⟨hc, rfl, rfl⟩⟩

theorem bkOf_set {D : Dk} {i : Nat} {x : Hd} {t : List Bool} {g : Pg} (hg : g = pgOf x) : ({ bkOf D with pg := (bkOf D).pg.set i g } : Bk) = { bkOf { D with tape := t, sks := D.sks.set i x } with tape := D.tape.length } := by
  subst hg
  simp [bkOf, List.map_set]

set_option maxHeartbeats 2000000 in
set_option maxRecDepth 100000 in
theorem sealed_any (p d : Nat) (kd A B C : Int) (t : ByteArray) (D : Dk) (ps : Nat → Nat) (w : World) (h : BkSt K w0 w p d D (bkOf D) ps) (hd : DInv D) (hkd : ¬ onOne kd) :
    Calls Try.prog 61 #[.pointer (some ⟨p, 0, none⟩), .agg #[.int .i64 kd, .int .i64 A, .int .i64 B, .int .i64 C, .string t]] w fun e w' => CallPost K w0 p d kd A D e w' := by
  obtain ⟨hbx, hkx⟩ := h.boxed (clBlk kd A B C t)
  have hkl := h.kl
  have HBOX := hid (heap_alloc_new w (clBlk kd A B C t))
  have hxz : w.heap.size < (w.alloc (clBlk kd A B C t)).heap.size := by simp
  obtain ⟨F, hdk, hstep⟩ := hbx.desk
  have HCALL := hid (fun (w' : World) (hb : Below (w.alloc (clBlk kd A B C t)).heap.size (w.alloc (clBlk kd A B C t)) w') => (sealT d A D w' (hdk.below hb)).mono (fun e w'' (hh : ∃ c D', e = .returned (.int .i64 c) ∧ DeskStep F w' w'' d D' ∧ SealRel A D c D') => (by obtain ⟨c, D', h1, h2, h3⟩ := hh; exact ⟨c, D', h1, hstep w'' D' (h2.later hb), h3⟩ : ∃ c D', e = .returned (.int .i64 c) ∧ BkSt (fun b => K b ∨ b = w.heap.size) (w.alloc (clBlk kd A B C t)) w'' p d D' (bkOf D) ps ∧ SealRel A D c D')))
  obtain ⟨ao0, cc0, f0, _, _, f3, hpz, _, _⟩ := hbx.facts
  obtain ⟨m0, m1, m2, m3, m4, mz⟩ := blk5 HBOX.out
  have HKX := hid hkx
  have HKL := hid hkl
  clear hbx hkx hdk hstep h hkl
  go_enter Try.func61, Try.ntmps61
  go_wp2_with fail
  generalize hwA : w.alloc (clBlk kd A B C t) = wA at *
  have HWA := hid hwA
  clear hwA
  go_region_held3 (fun w' => w'.cell? ⟨p, 0, none⟩ = some (.pointer (some ⟨d, 0, none⟩)) ∧ w'.cell? ⟨w.heap.size, 1, none⟩ = some (.int .i64 A)) (first | go_keep | exact ⟨f0', m1'⟩) (first | (go_at_call 55; refine (HCALL.out _ (bdrewT (Below.refl _ _))).mono ?_; rintro e w1 ⟨c, D', rfl, hbk, hrel⟩; obtain ⟨ao1, cc1, f0', f1', f2', f3', hpz1, fz1, fp1⟩ := hbk.facts; obtain ⟨m0', m1', m2', m3', m4', mz'⟩ := blk5 ((hbk.keeps.block w.heap.size (.inr rfl)).trans HBOX.out)))
  have HBK := hid hbk
  have hxz1 : w.heap.size < w1.heap.size := Nat.lt_of_lt_of_le hxz hbk.keeps.size
  have HBACK : Hid (∀ (w' : World) (D' : Dk) (E' : Bk) (ps' : Nat → Nat), BkSt (fun b => K b ∨ b = w.heap.size) wA w' p d D' E' ps' → BkSt K w0 w' p d D' E' ps') := fun w' D' E' ps' hh => hh.back (fun b hb => .inl hb) HKL.out HKX.out
  have HPN := hid (fun (hs : hasB A (bkOf D).pg.length = false) => page_no p d A D' (bkOf D) ps w1 hbk hs)
  have HPA := hid (fun (i : Nat) (hi : i < (bkOf D).pg.length) => page_at p d i D' (bkOf D) ps w1 hbk hi)
  clear f0 f3 m0 m1 m2 m3 m4 mz HCALL hpz hxz hbk
  rcases hrel with ⟨rfl, hs, rfl⟩ | ⟨i, rfl, hi, hcase⟩
  · have HP := hid (HPN.out (by rw [bkOf_len]; exact hs))
    clear HPN HPA hs
    go_wp2_with (go_at_call 82; refine HP.out.mono ?_; rintro e w' ⟨rfl, hw⟩; obtain rfl := hw.symm)
    go_ret2
    exact bk_same (HBACK.out _ _ _ _ HBK.out) (by decide)
  · have HP := hid (HPA.out i (by rw [bkOf_len]; exact hi))
    have hpl : i < (bkOf D).pg.length := by rw [bkOf_len]; exact hi
    obtain ⟨vx, vw, g0, g1, g2, g3, _, _, hgz, gz⟩ := HBK.out.pgFacts hpl
    rw [bkOf_at D hi] at g0 g1
    have HPL := hid hpl
    clear HPN HPA hpl
    rcases hcase with ⟨rfl, hse, rfl⟩ | ⟨hse, rfl, rfl⟩
    · have g1' : w1.cell? ⟨ps i, 1, none⟩ = some (.bool true) := by rw [g1]; unfold pgOf; rw [hse]
      clear g1
      go_wp2_with (go_at_call 82; refine HP.out.mono ?_; rintro e w' ⟨rfl, hw⟩; obtain rfl := hw.symm)
      go_ret2
      exact bk_same (HBACK.out _ _ _ _ HBK.out) (by decide)
    · have g1' : w1.cell? ⟨ps i, 1, none⟩ = some (.bool false) := by rw [g1]; unfold pgOf; rw [hse]
      clear g1
      have HST := hid (HBACK.out _ _ _ _ (HBK.out.setSeal HPL.out true))
      go_wp2_with (go_at_call 82; refine HP.out.mono ?_; rintro e w' ⟨rfl, hw⟩; obtain rfl := hw.symm)
      go_ret2
      refine ⟨0, _, _, ps, rfl, HST.out, .inr ⟨rfl, ?_, ?_, ?_, ?_, fun h => absurd h hkd⟩⟩
      · have hr := hd.sk i hi
        exact hd.set (t := D.tape) hi ⟨⟨hr.ok.k1, hr.ok.k2, hr.ok.len1, hr.ok.len, hr.ok.cnt, hr.ok.tms⟩, hr.set, hr.tn⟩ (hd.tk i hi) hd.tape
      · show _ ≤ (D.sks.set i _).length
        rw [List.length_set]; exact Nat.le_refl _
      · intro j hj _
        show ((D.sks.set i _).getD j Hd.none).sk = _
        rw [getD_set_hd hi]
        by_cases e : j = i
        · rw [if_pos e, e]
        · rw [if_neg e]
      · rw [if_neg hkd, bkOf_at D hi]
        exact bkOf_set (t := D.tape) rfl

end Go.Proofs.Ytklicjbpjigfdab

/- DERIVED. The walk of the book's added. -/
namespace Go.Proofs.Ytklicjbpjigfdab
open Go.RowKit
attribute [local go_sem ↓] Go.wp_at_zero Go.wp_at_succ
variable {K : Nat → Prop} {w0 : World}

theorem add_rel_ok {B C : Int} {D D' : Dk} {i : Nat} {L : List Lvl} {u : Nat} (hd : DInv D) (hi : i < D.sks.length) (h1 : 1 ≤ C) (h2 : C ≤ 268435456 - (wsum (D.sks.getD i Hd.none).sk.lv : Int)) (hset : settle (D.sks.getD i Hd.none).sk.k D.tape 0 (addL (D.sks.getD i Hd.none) B C.toNat) = some (L, u))
    (hD : D' = { D with tape := D.tape.drop u, sks := D.sks.set i { sk := { k := (D.sks.getD i Hd.none).sk.k, lv := L, lo := addLo (D.sks.getD i Hd.none) B, hi := addHi (D.sks.getD i Hd.none) B }, sealed := (D.sks.getD i Hd.none).sealed, taken := (D.sks.getD i Hd.none).taken } }) :
    DInv D' ∧ D'.sks.length = D.sks.length ∧ wsum (D'.sks.getD i Hd.none).sk.lv = wsum (D.sks.getD i Hd.none).sk.lv + C.toNat ∧ D'.tape.length ≤ D.tape.length ∧ (∀ j, j ≠ i → (D'.sks.getD j Hd.none).sk = (D.sks.getD j Hd.none).sk) ∧
    ({ bkOf D with pg := (bkOf D).pg.set i { (bkOf D).pg.getD i Pg.none with n := wsum (D.sks.getD i Hd.none).sk.lv + C.toNat } } : Bk) = { bkOf D' with tape := D.tape.length } := by
  subst hD
  obtain ⟨hr, hw⟩ := rinv_took (lo := addLo (D.sks.getD i Hd.none) B) (hi := addHi (D.sks.getD i Hd.none) B) (b := (D.sks.getD i Hd.none).sealed) (l := (D.sks.getD i Hd.none).taken) (hd.sk i hi) (by omega) (by omega) hset
  have hdl : (D.tape.drop u).length ≤ D.tape.length := by simp
  have ht := hd.tape
  refine ⟨hd.set hi hr (hd.tk i hi) (by omega), by show (D.sks.set i _).length = _; rw [List.length_set], ?_, hdl, fun j hj => ?_, ?_⟩
  · show wsum ((D.sks.set i _).getD i Hd.none).sk.lv = _
    rw [getD_set_hd hi, if_pos rfl]; exact hw
  · show ((D.sks.set i _).getD j Hd.none).sk = _
    rw [getD_set_hd hi, if_neg hj]
  · rw [bkOf_at D hi]
    refine bkOf_set ?_
    unfold pgOf
    simp only [hw]

set_option maxHeartbeats 4000000 in
set_option maxRecDepth 100000 in
theorem added_any (p d : Nat) (kd A B C : Int) (t : ByteArray) (D : Dk) (ps : Nat → Nat) (w : World) (h : BkSt K w0 w p d D (bkOf D) ps) (hd : DInv D) (hkd : onOne kd) (hC : C ≤ 9223372036854775807) :
    Calls Try.prog 59 #[.pointer (some ⟨p, 0, none⟩), .agg #[.int .i64 kd, .int .i64 A, .int .i64 B, .int .i64 C, .string t]] w fun e w' => CallPost K w0 p d kd A D e w' := by
  obtain ⟨hbx, hkx⟩ := h.boxed (clBlk kd A B C t)
  have hkl := h.kl
  have HBOX := hid (heap_alloc_new w (clBlk kd A B C t))
  have hxz : w.heap.size < (w.alloc (clBlk kd A B C t)).heap.size := by simp
  obtain ⟨F, hdk, hstep⟩ := hbx.desk
  have HCALL := hid (fun (w' : World) (hb : Below (w.alloc (clBlk kd A B C t)).heap.size (w.alloc (clBlk kd A B C t)) w') => (addTot d A B C D w' (hdk.below hb) hd).mono (fun e w'' (hh : ∃ c D', e = .returned (.int .i64 c) ∧ DeskStep F w' w'' d D' ∧ AddRel A B C D c D') => (by obtain ⟨c, D', h1, h2, h3⟩ := hh; exact ⟨c, D', h1, hstep w'' D' (h2.later hb), h3⟩ : ∃ c D', e = .returned (.int .i64 c) ∧ BkSt (fun b => K b ∨ b = w.heap.size) (w.alloc (clBlk kd A B C t)) w'' p d D' (bkOf D) ps ∧ AddRel A B C D c D')))
  obtain ⟨ao0, cc0, f0, _, _, f3, hpz, _, _⟩ := hbx.facts
  obtain ⟨m0, m1, m2, m3, m4, mz⟩ := blk5 HBOX.out
  have HKX := hid hkx
  have HKL := hid hkl
  clear hbx hkx hdk hstep h hkl
  go_enter Try.func59, Try.ntmps59
  go_wp2_with fail
  generalize hwA : w.alloc (clBlk kd A B C t) = wA at *
  have HWA := hid hwA
  clear hwA
  go_region_held3 (fun w' => w'.cell? ⟨p, 0, none⟩ = some (.pointer (some ⟨d, 0, none⟩)) ∧ w'.cell? ⟨w.heap.size, 1, none⟩ = some (.int .i64 A) ∧ w'.cell? ⟨w.heap.size, 2, none⟩ = some (.int .i64 B) ∧ w'.cell? ⟨w.heap.size, 3, none⟩ = some (.int .i64 C)) (first | go_keep | exact ⟨f0', m1', m2', m3'⟩) (first | (go_at_call 56; refine (HCALL.out _ (bdrewT (Below.refl _ _))).mono ?_; rintro e w1 ⟨c, D', rfl, hbk, hrel⟩; obtain ⟨ao1, cc1, f0', f1', f2', f3', hpz1, fz1, fp1⟩ := hbk.facts; obtain ⟨m0', m1', m2', m3', m4', mz'⟩ := blk5 ((hbk.keeps.block w.heap.size (.inr rfl)).trans HBOX.out)))
  have HBK := hid hbk
  have hxz1 : w.heap.size < w1.heap.size := Nat.lt_of_lt_of_le hxz hbk.keeps.size
  have HBACK : Hid (∀ (w' : World) (D' : Dk) (E' : Bk) (ps' : Nat → Nat), BkSt (fun b => K b ∨ b = w.heap.size) wA w' p d D' E' ps' → BkSt K w0 w' p d D' E' ps') := fun w' D' E' ps' hh => hh.back (fun b hb => .inl hb) HKL.out HKX.out
  have HPN := hid (fun (hs : hasB A (bkOf D).pg.length = false) => page_no p d A D' (bkOf D) ps w1 hbk hs)
  have HPA := hid (fun (i : Nat) (hi : i < (bkOf D).pg.length) => page_at p d i D' (bkOf D) ps w1 hbk hi)
  clear f0 f3 m0 m1 m2 m3 m4 mz HCALL hpz hxz hbk
  rcases hrel with ⟨rfl, hs, rfl⟩ | ⟨i, rfl, hi, hcase⟩
  · have HP := hid (HPN.out (by rw [bkOf_len]; exact hs))
    clear HPN HPA hs
    go_wp2_with (go_at_call 82; refine HP.out.mono ?_; rintro e w' ⟨rfl, hw⟩; obtain rfl := hw.symm)
    go_ret2
    exact bk_same (HBACK.out _ _ _ _ HBK.out) (by decide)
  · have HP := hid (HPA.out i (by rw [bkOf_len]; exact hi))
    have hpl : i < (bkOf D).pg.length := by rw [bkOf_len]; exact hi
    obtain ⟨vx, vw, g0, g1, g2, g3, _, _, hgz, gz⟩ := HBK.out.pgFacts hpl
    rw [bkOf_at D hi] at g0 g1
    change w1.cell? ⟨ps i, 0, none⟩ = some (.int .i64 (wsum (D.sks.getD i Hd.none).sk.lv : Int)) at g0
    change w1.cell? ⟨ps i, 1, none⟩ = some (.bool (D.sks.getD i Hd.none).sealed) at g1
    have HPL := hid hpl
    have hcnt := (hd.sk i hi).ok.cnt
    clear HPN HPA hpl
    rcases hcase with ⟨rfl, hse, rfl⟩ | ⟨hse, hcase⟩
    · rw [hse] at g1
      go_wp2_with (go_at_call 82; refine HP.out.mono ?_; rintro e w' ⟨rfl, hw⟩; obtain rfl := hw.symm)
      go_ret2
      exact bk_same (HBACK.out _ _ _ _ HBK.out) (by decide)
    · rw [hse] at g1
      rcases hcase with ⟨rfl, h1, rfl⟩ | ⟨rfl, h1, h2, rfl⟩ | ⟨h1, h2, hcase⟩
      · go_wp2_with (go_at_call 82; refine HP.out.mono ?_; rintro e w' ⟨rfl, hw⟩; obtain rfl := hw.symm)
        go_ret2
        exact bk_same (HBACK.out _ _ _ _ HBK.out) (by decide)
      · have hd1 : decide (268435456 - (wsum (D'.sks.getD i Hd.none).sk.lv : Int) < C) = true := decide_eq_true h2
        generalize hn : wsum (D'.sks.getD i Hd.none).sk.lv = n at *
        go_wp2_with (go_at_call 82; refine HP.out.mono ?_; rintro e w' ⟨rfl, hw⟩; obtain rfl := hw.symm)
        go_quiet (fail)
        go_wp2_with fail
        go_ret2
        exact bk_same (HBACK.out _ _ _ _ HBK.out.drewN) (by decide)
      · have hnf : ¬ 268435456 - (wsum (D.sks.getD i Hd.none).sk.lv : Int) < C := by omega
        have hd1 : decide (268435456 - (wsum (D.sks.getD i Hd.none).sk.lv : Int) < C) = false := decide_eq_false hnf
        rcases hcase with ⟨rfl, hset, rfl⟩ | ⟨rfl, L, u, hset, hD⟩
        · have hsh := add_short (hd.sk i hi) hset
          have HSH := hid (fun (w' : World) (hb : Below w1.heap.size w1 w') => short_any p d D' (bkOf D') ps w' (HBK.out.below hb) hsh)
          have HSET := hid hset
          clear hset
          generalize hn : wsum (D'.sks.getD i Hd.none).sk.lv = n at *
          go_wp2_with (go_at_call 82; refine HP.out.mono ?_; rintro e w' ⟨rfl, hw⟩; obtain rfl := hw.symm)
          go_quiet (fail)
          go_wp2_with fail
          refine (HSH.out _ (below_drewN (Below.refl _ _) _)).mono ?_
          rintro e w' ⟨rfl, hw⟩
          obtain rfl := hw.symm
          go_wp2_with fail
          go_ret2
          exact bk_same (HBACK.out _ _ _ _ HBK.out.drewN) (by decide)
        · obtain ⟨z1, z2, z3, z4, z5, z6⟩ := add_rel_ok hd hi h1 h2 hset hD
          have HSET := hid hset
          have HZ := hid (And.intro z1 (And.intro z2 (And.intro z4 z5)))
          have HZ6 := hid z6
          have HZ3 := hid z3
          have HSTN := hid (fun (w' : World) (hb : Below w1.heap.size w1 w') => (HBK.out.below hb).setN HPL.out (wsum (D.sks.getD i Hd.none).sk.lv + C.toNat))
          have eN : ((wsum (D.sks.getD i Hd.none).sk.lv + C.toNat : Nat) : Int) = (wsum (D.sks.getD i Hd.none).sk.lv : Int) + C := by omega
          have HEN := hid eN
          have hilen : i < D'.sks.length := by rw [z2]; exact hi
          have hok' := (z1.sk i hilen).ok
          have HOK' := hid hok'
          clear hset hD z1 z2 z3 z4 z5 z6 eN hok'
          generalize hn : wsum (D.sks.getD i Hd.none).sk.lv = n at *
          go_wp2_with (go_at_call 82; refine HP.out.mono ?_; rintro e w' ⟨rfl, hw⟩; obtain rfl := hw.symm)
          go_quiet (fail)
          go_wp2_with fail
          have HX : Hid (∀ (w' : World), Below w1.heap.size w1 w' → BkSt (fun b => K b ∨ b = w.heap.size) wA (w'.setCell ⟨ps i, 0, none⟩ (.int .i64 ((n : Int) + C))) p d D' { bkOf D' with tape := D.tape.length } ps) := fun w' hb => by
            have e := HSTN.out w' hb
            rw [HZ6.out, HEN.out] at e
            exact e
          have hbq : Below w1.heap.size w1 (w1.drewN nq) := below_drewN (Below.refl _ _) _
          go_region_with fail
          all_goals
            have hst2 := HX.out (w1.drewN (nq + 1)) (below_drewN (Below.refl _ _) _)
            have hwr : IntKind.i64.wrap ((n : Int) + C) = (n : Int) + C := by rw [IntKind.wrap_i64]; omega
            rw [hwr]
            generalize hw2 : (w1.drewN (nq + 1)).setCell ⟨ps i, 0, none⟩ (.int .i64 ((n : Int) + C)) = w2 at *
            clear hw2 hwr
            obtain ⟨ao2, cc2, k0, k1, k2, k3, hpz2, kz, _⟩ := hst2.facts
            have hpl2 : i < ({ bkOf D' with tape := D.tape.length } : Bk).pg.length := by show i < (bkOf D').pg.length; rw [bkOf_len]; exact hilen
            obtain ⟨vx2, vw2, n0, n1, _, _, _, _, hgz2, nz⟩ := hst2.pgFacts hpl2
            rw [show ({ bkOf D' with tape := D.tape.length } : Bk).pg = (bkOf D').pg from rfl, bkOf_at D' hilen] at n0
            change w2.cell? ⟨ps i, 0, none⟩ = some (.int .i64 (wsum (D'.sks.getD i Hd.none).sk.lv : Int)) at n0
            obtain ⟨l0, l1, l2, l3, l4, lz⟩ := blk5 ((hst2.keeps.block w.heap.size (.inr rfl)).trans HBOX.out)
            have hbz2 : w.heap.size < w2.heap.size := Nat.lt_of_lt_of_le (lt_of_blk' HBOX.out) hst2.keeps.size
            have HCO := hid (fun (w' : World) (hb : Below w2.heap.size w2 w') => bcount_any p d i D' _ ps w' (hst2.below hb) hilen HOK'.out)
            have HST2 := hid hst2
            generalize wsum (D'.sks.getD i Hd.none).sk.lv = nn at *
            clear hst2 f0' f1' f2' f3' fz1 fp1 m0' m1' m2' m3' m4' mz' g0 g1 g2 g3 gz hpz1
            go_wp2_with fail
            go_region_held3 (fun w' => w'.cell? ⟨w.heap.size, 1, none⟩ = some (.int .i64 (i : Int)) ∧ w'.cell? ⟨ps i, 0, none⟩ = some (.int .i64 (nn : Int))) (first | go_keep | exact ⟨(hb3.cell (by exact hbz2)).trans l1, (hb3.cell (by exact hgz2)).trans n0⟩) (first | (go_at_call 84; refine (HCO.out _ (bdrewT (Below.refl _ _))).mono ?_; rintro e w3 ⟨rfl, hb3⟩))
            have HB3 := hid (undrew hb3)
            clear hb3
            go_wp2_with fail
            go_ret2
            refine ⟨0, D', { bkOf D' with tape := D.tape.length }, ps, rfl, HBACK.out _ _ _ _ (HST2.out.below HB3.out), .inr ⟨rfl, HZ.out.1, by rw [HZ.out.2.1]; exact Nat.le_refl _, fun j hj hne => HZ.out.2.2.2 j (fun e => hne (by rw [if_pos hkd, e])), by rw [if_pos hkd], fun _ => ⟨HZ.out.2.2.1, by omega⟩⟩⟩

end Go.Proofs.Ytklicjbpjigfdab
