/- DERIVED. Plain mathematics: a script leaves one world; one number more, with the coin 0 and with the coin 1, moves the ranks on the average by the number. -/
import Derived.Test.YtklicjbpjigfdaaMh
import Derived.Test.YtklicjbpjigfdaaMe
namespace Go.Proofs.Ytklicjbpjigfdaa
open Go.RowKit

/-- The two halves of the pairs together are the pairs. -/
theorem usum_fair {q : Int} {X : List Int} : ∀ {L : List Lvl} {h : Nat}, h < L.length → LvOk X L → usum q (thinL L h false) + usum q (thinL L h true) = 2 * usum q L
  | [], _, hh, _ => by simp at hh
  | [l], 0, _, hL => by
    have h1 := cnt_up q l.items (hL l (by simp)).1
    have h2 := cnt_split q l.items (l.items.length % 2)
    rw [thinL_one, thinL_one]
    simp only [usum, cnt_jn, cnt_nil, Nat.zero_add, h1, Bool.false_eq_true, if_false, if_true]
    omega
  | l :: m :: L, 0, _, hL => by
    have h1 := cnt_up q l.items (hL l (by simp)).1
    have h2 := cnt_split q l.items (l.items.length % 2)
    rw [thinL_two, thinL_two]
    simp only [usum, cnt_jn, h1, Bool.false_eq_true, if_false, if_true]
    omega
  | l :: L, j + 1, hh, hL => by
    have := usum_fair (q := q) (L := L) (h := j) (by simpa using hh) (fun l hl => hL l (by simp [hl]))
    rw [thinL_succ, thinL_succ]
    simp only [usum]; omega

theorem AddR.det {i wt : Nat} {x : Int} {W A B : Wd} (ha : AddR i x wt W A) (hb : AddR i x wt W B) : A = B := by
  rcases ha with ⟨fa, rfl⟩ | ⟨fa, cs, L', a, da, sa, _, rfl⟩
  · rcases hb with ⟨_, rfl⟩ | ⟨fb, _⟩
    · rfl
    · omega
  · rcases hb with ⟨fb, _⟩ | ⟨fb, cs', T', a', db, sb, _, rfl⟩
    · omega
    · have e := (sh_settle (u := 0) rfl (by rw [Nat.zero_add]; exact sa) (by rw [Nat.zero_add]; exact sb)).2
      have ec : cs = cs' := by rw [da.2.1, db.2.1, e]
      have ea : a = a' := by rw [da.2.2, db.2.2, e]
      subst ec ea
      rw [sa] at sb
      simp at sb
      rw [sb]
theorem MergeR.det {i j : Nat} {W A B : Wd} (ha : MergeR i j W A) (hb : MergeR i j W B) : A = B := by
  rcases ha with ⟨fa, rfl⟩ | ⟨fa, cs, L', a, da, sa, _, rfl⟩
  · rcases hb with ⟨_, rfl⟩ | ⟨fb, _⟩
    · rfl
    · omega
  · rcases hb with ⟨fb, _⟩ | ⟨fb, cs', T', a', db, sb, _, rfl⟩
    · omega
    · have e := (sh_settle (u := 0) rfl (by rw [Nat.zero_add]; exact sa) (by rw [Nat.zero_add]; exact sb)).2
      have ec : cs = cs' := by rw [da.2.1, db.2.1, e]
      have ea : a = a' := by rw [da.2.2, db.2.2, e]
      subst ec ea
      rw [sa] at sb
      simp at sb
      rw [sb]
theorem StepR.det {kd a b c : Int} {W A B : Wd} (ha : StepR kd a b c W A) (hb : StepR kd a b c W B) : A = B := by
  rcases ha with ⟨k1, ha⟩ | ⟨k1, ha⟩
  · rcases hb with ⟨_, hb⟩ | ⟨k2, _⟩
    · exact ha.det hb
    · exact absurd k1 k2
  · rcases hb with ⟨k2, _⟩ | ⟨_, hb⟩
    · exact absurd k2 k1
    · exact ha.det hb
theorem PlayR.det : ∀ {l : List St} {W A B : Wd}, PlayR l W A → PlayR l W B → A = B
  | [], _, _, _, ha, hb => by cases ha; cases hb; rfl
  | _ :: _, _, _, _, ⟨V, h1, h2⟩, ⟨V', h3, h4⟩ => by cases h1.det h3; exact h2.det h4

/-- Other coins. -/
def Wd.recoin (W : Wd) (c : ByteArray) : Wd := { W with coins := c, at_ := 0 }
theorem MInv.recoin {W : Wd} (h : MInv W) (c : ByteArray) (hc : c.size ≤ 140737488355328) : MInv (W.recoin c) :=
  ⟨h.len, h.tape, Nat.zero_le _, hc, h.most, h.used, h.came, h.roomy, h.tall, h.near, h.uns⟩

theorem one_coin {W : Wd} {c : ByteArray} {cs : List Bool} {a : Nat} (h : DrawOk (W.recoin c) cs a) (h1 : cs.length = 1) : cs = [coinOf c 0] := by
  have := h.2.1
  rw [h1] at this
  exact this

theorem settle_fair {q : Int} {X : List Int} {k : Nat} {M L' T' : List Lvl} {cs cs' : List Bool} (hM : LvOk X M) (sa : settle k cs 0 M = some (L', cs.length)) (sb : settle k cs' 0 M = some (T', cs'.length)) (h1 : cs.length ≤ 1) (hl : cs.length = cs'.length) (c0 : cs.length = 1 → cs = [false]) (c1 : cs'.length = 1 → cs' = [true]) : usum q L' + usum q T' = 2 * usum q M := by
  by_cases h0 : cs.length = 0
  · have d0 : cs = [] := List.eq_nil_of_length_eq_zero h0
    have d1 : cs' = [] := List.eq_nil_of_length_eq_zero (by omega)
    subst d0 d1
    cases ht : toThinL k M with
    | none =>
      rw [settle_done ht] at sa sb
      simp at sa sb
      rw [← sa, ← sb]; omega
    | some r => rw [settle_short ht] at sa; simp at sa
  · have d0 := c0 (by omega)
    have d1 := c1 (by omega)
    subst d0 d1
    cases ht : toThinL k M with
    | none => rw [settle_done ht] at sa; simp at sa
    | some r =>
      rw [settle_step ht] at sa sb
      have e0 : thinL M r false = L' := by
        cases hu : toThinL k (thinL M r false) with
        | none => rw [settle_done hu] at sa; simp at sa; exact sa
        | some r' => rw [settle_short hu] at sa; simp at sa
      have e1 : thinL M r true = T' := by
        cases hu : toThinL k (thinL M r true) with
        | none => rw [settle_done hu] at sb; simp at sb; exact sb
        | some r' => rw [settle_short hu] at sb; simp at sb
      rw [← e0, ← e1]
      exact usum_fair (toThinL_some ht).1 hM

theorem fair_math {W A B : Wd} {x q : Int} (hm : MInv W) (ra : AddR 0 x 1 (W.recoin ⟨#[48]⟩) A) (rb : AddR 0 x 1 (W.recoin ⟨#[49]⟩) B) :
    usum q (A.D.sks.getD 0 Hd.none).sk.lv + usum q (B.D.sks.getD 0 Hd.none).sk.lv = 2 * (usum q (W.D.sks.getD 0 Hd.none).sk.lv + (if x ≤ q ∧ (W.sd 0).n < 268435456 then 1 else 0)) := by
  have hc := hm.came 0 (by omega)
  have hn := hc.inok.n
  have hat : ∀ (V : Wd) (hd : Hd), V.D.sks = W.D.sks → (V.D.sks.set 0 hd).getD 0 Hd.none = hd := by
    intro V hd hV
    rw [hV, sks_set (by rw [hm.len]; omega), if_pos rfl]
  rcases ra with ⟨fa, rfl⟩ | ⟨fa, cs, L', a, da, sa, _, rfl⟩
  · have fa' : 268435456 < wsum (W.D.sks.getD 0 Hd.none).sk.lv + 1 := fa
    rcases rb with ⟨_, rfl⟩ | ⟨fb, _⟩
    · rw [if_neg (by intro h; omega)]
      show usum q (W.D.sks.getD 0 Hd.none).sk.lv + usum q (W.D.sks.getD 0 Hd.none).sk.lv = _
      omega
    · have fb' : wsum (W.D.sks.getD 0 Hd.none).sk.lv + 1 ≤ 268435456 := fb
      omega
  · have fa' : wsum (W.D.sks.getD 0 Hd.none).sk.lv + 1 ≤ 268435456 := fa
    rcases rb with ⟨fb, _⟩ | ⟨_, cs', T', a', db, sb, _, rfl⟩
    · have fb' : 268435456 < wsum (W.D.sks.getD 0 Hd.none).sk.lv + 1 := fb
      omega
    · have sa' : settle (W.D.sks.getD 0 Hd.none).sk.k cs 0 (addL (W.D.sks.getD 0 Hd.none) x 1) = some (L', cs.length) := sa
      have sb' : settle (W.D.sks.getD 0 Hd.none).sk.k cs' 0 (addL (W.D.sks.getD 0 Hd.none) x 1) = some (T', cs'.length) := sb
      have e1 : ((Wd.took (W.recoin ⟨#[48]⟩) 0 x 1 L' cs.length a).D.sks.getD 0 Hd.none).sk.lv = L' := by
        show (((W.recoin ⟨#[48]⟩).D.sks.set 0 _).getD 0 Hd.none).sk.lv = L'
        rw [hat (W.recoin ⟨#[48]⟩) _ rfl]
      have e2 : ((Wd.took (W.recoin ⟨#[49]⟩) 0 x 1 T' cs'.length a').D.sks.getD 0 Hd.none).sk.lv = T' := by
        show (((W.recoin ⟨#[49]⟩).D.sks.set 0 _).getD 0 Hd.none).sk.lv = T'
        rw [hat (W.recoin ⟨#[49]⟩) _ rfl]
      rw [e1, e2]
      have hup : usum q (addL (W.D.sks.getD 0 Hd.none) x 1) = usum q (W.D.sks.getD 0 Hd.none).sk.lv + (if x ≤ q ∧ (W.sd 0).n < 268435456 then 1 else 0) := by
        unfold addL
        rw [usum_with (by decide) (Nat.zero_le _), Nat.pow_zero, Nat.one_mul]
        congr 1
        by_cases hx : x ≤ q
        · rw [if_pos hx, if_pos ⟨hx, by omega⟩]
        · rw [if_neg hx, if_neg (fun h => hx h.1)]
      rw [← hup]
      have hl := (sh_settle (u := 0) rfl (by rw [Nat.zero_add]; exact sa') (by rw [Nat.zero_add]; exact sb')).2
      have hfew : cs.length ≤ 1 := by
        have h1 : nsum (addL (W.D.sks.getD 0 Hd.none) x 1) ≤ nsum (W.D.sks.getD 0 Hd.none).sk.lv + 1 := withFrom_nw (Nat.zero_le _)
        have h2 : (W.D.sks.getD 0 Hd.none).sk.lv.length ≤ (addL (W.D.sks.getD 0 Hd.none) x 1).length := withFrom_length_ge (Nat.zero_le _)
        have h3 := capSum_mono (k := (W.D.sks.getD 0 Hd.none).sk.k) h2
        have h4 := hc.inok.set
        have := settle_few (m := 1) (by omega) sa'
        omega
      have hLw : LvOk (putXs (W.sd 0) x) (addL (W.D.sks.getD 0 Hd.none) x 1) := LvOk.with (put_facts (x := x) (wt := 1) hc.len).2.2.1 (hc.lvok.mono (put_facts (x := x) (wt := 1) hc.len).2.2.2.1)
      refine settle_fair hLw sa' sb' hfew hl (fun h => ?_) (fun h => ?_)
      · rw [one_coin da h]; rfl
      · rw [one_coin db h]; rfl

end Go.Proofs.Ytklicjbpjigfdaa

/- DERIVED. The walks of the statement's own played and mid. -/
namespace Go.Proofs.Ytklicjbpjigfdaa
open Go.RowKit
variable {K : Nat → Prop} {w0 : World}

set_option maxHeartbeats 1000000 in
set_option maxRecDepth 100000 in
theorem mid_any (p d i : Nat) (q : Int) (ps : Nat → Nat) (W : Wd) (w : World) (h : WdSt K w0 w p d 3 ps W) (hi : i < 3) (hm : MInv W) :
    Calls Try.prog 20 #[.pointer (some ⟨p, 0, none⟩), .int .i64 (i : Int), .int .i64 q] w fun e w' => e = .returned (.tuple #[.int .i64 (usum q (W.D.sks.getD i Hd.none).sk.lv : Int), .bool true]) ∧ Below w.heap.size w w' := by
  have hc := hm.came i hi
  have hro := hm.roomy i hi
  obtain ⟨own, vs, vx, vw, h, _⟩ := h
  obtain ⟨gs, cs0, evs, hptr⟩ := h.ptr hi
  obtain ⟨c0, c1, c2, c3, c4, c5, c6, cz⟩ := blk7 h.blk
  rw [evs] at c1
  have hil : i < W.D.sks.length := by rw [hm.len]; exact hi
  have hss := ssum_small hc hro
  have HRK := hid (deskRank d W.D i q w h.desk hil hc.inok.ok (fun j _ => (hc.lvok.at j).1) hss)
  have hub := usum_le q (W.D.sks.getD i Hd.none).sk.lv
  have hcnt := hc.inok.ok.cnt
  have hnw := hc.inok.n
  have HPB := hid h.blk
  have hpz := lt_of_blk' h.blk
  have HSD := hid (h.side i hi).blk
  have hsz := lt_of_blk' (h.side i hi).blk
  have HRW := hid (fun (w' : World) (hb : Below w.heap.size w w') => by
    obtain ⟨g', c', e', hp'⟩ := (h.below hb).ptr hi
    rw [evs] at e'
    cases e'
    exact hp')
  have hs1 : (0 : Int) ≤ (i : Int) := by omega
  have hs2 : (i : Int) < 3 := by omega
  generalize W.D.sks.getD i Hd.none = de at *
  generalize rkLow q de.sk.lv de.sk.lo de.sk.hi = rl at *
  generalize rkHigh q de.sk.lv de.sk.lo de.sk.hi = rh at *
  generalize hus : usum q de.sk.lv = us at *
  generalize wsum de.sk.lv = ws at *
  generalize ps i = pi at *
  generalize hn9 : (W.sd i).n = sn at *
  have HUS := hid hus
  clear hc hro h hus hil
  go_enter Try.func20, Try.ntmps20
  go_wp2_with fail
  refine HRK.out.mono ?_
  rintro e w1 ⟨he, hb1⟩
  have hp1 := (hb1.block _ hpz).trans HPB.out
  have hq1 := (hb1.block _ hsz).trans HSD.out
  have s2 : w1.cell? ⟨pi, 2, none⟩ = some (.int .i64 (sn : Int)) := (blk6 hq1).2.2.1
  have hptr1 := HRW.out w1 hb1
  clear c0 c1 c2 c3 c4 c5 c6 cz
  obtain ⟨c0, c1, c2, c3, c4, c5, c6, cz⟩ := blk7 hp1
  rw [evs] at c1
  have HB1 := hid hb1
  have hpz1 := lt_of_blk' hp1
  have hgz1 : gs < w1.heap.size := World.block_lt_of_cell? _ _ hptr1
  clear hptr
  have hsz1 := lt_of_blk' hq1
  clear hb1 hp1 hq1 HRK hn9
  by_cases h0 : sn = 0
  · have hw0 : ws = 0 := by omega
    have hu0 : us = 0 := by omega
    rw [if_pos hw0] at he
    subst he
    subst h0
    subst hu0
    clear hnw hub hw0
    go_wp2_with fail
    go_quiet (fail)
    go_wp2_with fail
    go_ret2
    refine ⟨?_, below_drewN (HB1.out.alloc HB1.out.size _) _⟩
    simp
  · have hw0 : ¬ ws = 0 := by omega
    rw [if_neg hw0] at he
    subst he
    have h0' : ((sn : Int) == 0) = false := by simpa using h0
    clear hnw
    go_wp2_with fail
    go_ret2
    refine ⟨?_, HB1.out.alloc HB1.out.size _⟩
    simp

end Go.Proofs.Ytklicjbpjigfdaa
