/- DERIVED. Plain mathematics: a script leaves one world; one number more, with the coin 0 and with the coin 1, moves the ranks on the average by the number. -/
import Derived.Test.YtklicjbpjigfdaaMh
import Derived.Test.YtklicjbpjigfdaaMe
import Derived.Test.YtklicjbpjigfdaaMy
import Derived.Deep.Cut
namespace Go.Proofs.Ytklicjbpjigfdaa
open Go.RowKit

/-- The two halves of the pairs together are the pairs. -/
theorem usum_fair {q : Int} {X : List Int} : ∀ {L : List Lvl} {h : Nat}, h < L.length → LvOk X L → usum q (thinL L h false) + usum q (thinL L h true) = 2 * usum q L
  | [], _, hh, _ => by simp at hh
  | [l], 0, _, hL => by
    have h1 := cnt_up q l.items (hL l (by simp)).1
    have h2 := cnt_split q l.items (l.items.length % 2)
    rw [thinL_one, thinL_one]
    simp only [usum, cnt_jn, cnt_nil, Nat.zero_add, h1, Bool.false_eq_true, if_false, if_true]
    omega
  | l :: m :: L, 0, _, hL => by
    have h1 := cnt_up q l.items (hL l (by simp)).1
    have h2 := cnt_split q l.items (l.items.length % 2)
    rw [thinL_two, thinL_two]
    simp only [usum, cnt_jn, h1, Bool.false_eq_true, if_false, if_true]
    omega
  | l :: L, j + 1, hh, hL => by
    have := usum_fair (q := q) (L := L) (h := j) (by simpa using hh) (fun l hl => hL l (by simp [hl]))
    rw [thinL_succ, thinL_succ]
    simp only [usum]; omega

theorem AddR.det {i wt : Nat} {x : Int} {W A B : Wd} (ha : AddR i x wt W A) (hb : AddR i x wt W B) : A = B := by
  rcases ha with ⟨fa, rfl⟩ | ⟨fa, cs, L', a, da, sa, _, rfl⟩
  · rcases hb with ⟨_, rfl⟩ | ⟨fb, _⟩
    · rfl
    · omega
  · rcases hb with ⟨fb, _⟩ | ⟨fb, cs', T', a', db, sb, _, rfl⟩
    · omega
    · have e := (sh_settle (u := 0) rfl (by rw [Nat.zero_add]; exact sa) (by rw [Nat.zero_add]; exact sb)).2
      have ec : cs = cs' := by rw [da.2.1, db.2.1, e]
      have ea : a = a' := by rw [da.2.2, db.2.2, e]
      subst ec ea
      rw [sa] at sb
      simp at sb
      rw [sb]
theorem MergeR.det {i j : Nat} {W A B : Wd} (ha : MergeR i j W A) (hb : MergeR i j W B) : A = B := by
  rcases ha with ⟨fa, rfl⟩ | ⟨fa, cs, L', a, da, sa, _, rfl⟩
  · rcases hb with ⟨_, rfl⟩ | ⟨fb, _⟩
    · rfl
    · omega
  · rcases hb with ⟨fb, _⟩ | ⟨fb, cs', T', a', db, sb, _, rfl⟩
    · omega
    · have e := (sh_settle (u := 0) rfl (by rw [Nat.zero_add]; exact sa) (by rw [Nat.zero_add]; exact sb)).2
      have ec : cs = cs' := by rw [da.2.1, db.2.1, e]
      have ea : a = a' := by rw [da.2.2, db.2.2, e]
      subst ec ea
      rw [sa] at sb
      simp at sb
      rw [sb]
theorem StepR.det {kd a b c : Int} {W A B : Wd} (ha : StepR kd a b c W A) (hb : StepR kd a b c W B) : A = B := by
  rcases ha with ⟨k1, ha⟩ | ⟨k1, ha⟩
  · rcases hb with ⟨_, hb⟩ | ⟨k2, _⟩
    · exact ha.det hb
    · exact absurd k1 k2
  · rcases hb with ⟨k2, _⟩ | ⟨_, hb⟩
    · exact absurd k2 k1
    · exact ha.det hb
theorem PlayR.det : ∀ {l : List St} {W A B : Wd}, PlayR l W A → PlayR l W B → A = B
  | [], _, _, _, ha, hb => by cases ha; cases hb; rfl
  | _ :: _, _, _, _, ⟨V, h1, h2⟩, ⟨V', h3, h4⟩ => by cases h1.det h3; exact h2.det h4

/-- Other coins. -/
def Wd.recoin (W : Wd) (c : ByteArray) : Wd := { W with coins := c, at_ := 0 }
theorem MInv.recoin {W : Wd} (h : MInv W) (c : ByteArray) (hc : c.size ≤ 140737488355328) : MInv (W.recoin c) :=
  ⟨h.len, h.tape, Nat.zero_le _, hc, h.most, h.used, h.came, h.roomy, h.tall, h.near, h.uns⟩

theorem one_coin {W : Wd} {c : ByteArray} {cs : List Bool} {a : Nat} (h : DrawOk (W.recoin c) cs a) (h1 : cs.length = 1) : cs = [coinOf c 0] := by
  have := h.2.1
  rw [h1] at this
  exact this

theorem settle_fair {q : Int} {X : List Int} {k : Nat} {M L' T' : List Lvl} {cs cs' : List Bool} (hM : LvOk X M) (sa : settle k cs 0 M = some (L', cs.length)) (sb : settle k cs' 0 M = some (T', cs'.length)) (h1 : cs.length ≤ 1) (hl : cs.length = cs'.length) (c0 : cs.length = 1 → cs = [false]) (c1 : cs'.length = 1 → cs' = [true]) : usum q L' + usum q T' = 2 * usum q M := by
  by_cases h0 : cs.length = 0
  · have d0 : cs = [] := List.eq_nil_of_length_eq_zero h0
    have d1 : cs' = [] := List.eq_nil_of_length_eq_zero (by omega)
    subst d0 d1
    cases ht : toThinL k M with
    | none =>
      rw [settle_done ht] at sa sb
      simp at sa sb
      rw [← sa, ← sb]; omega
    | some r => rw [settle_short ht] at sa; simp at sa
  · have d0 := c0 (by omega)
    have d1 := c1 (by omega)
    subst d0 d1
    cases ht : toThinL k M with
    | none => rw [settle_done ht] at sa; simp at sa
    | some r =>
      rw [settle_step ht] at sa sb
      have e0 : thinL M r false = L' := by
        cases hu : toThinL k (thinL M r false) with
        | none => rw [settle_done hu] at sa; simp at sa; exact sa
        | some r' => rw [settle_short hu] at sa; simp at sa
      have e1 : thinL M r true = T' := by
        cases hu : toThinL k (thinL M r true) with
        | none => rw [settle_done hu] at sb; simp at sb; exact sb
        | some r' => rw [settle_short hu] at sb; simp at sb
      rw [← e0, ← e1]
      exact usum_fair (toThinL_some ht).1 hM

theorem fair_math {W A B : Wd} {x q : Int} (hm : MInv W) (ra : AddR 0 x 1 (W.recoin ⟨#[48]⟩) A) (rb : AddR 0 x 1 (W.recoin ⟨#[49]⟩) B) :
    usum q (A.D.sks.getD 0 Hd.none).sk.lv + usum q (B.D.sks.getD 0 Hd.none).sk.lv = 2 * (usum q (W.D.sks.getD 0 Hd.none).sk.lv + (if x ≤ q ∧ (W.sd 0).n < 268435456 then 1 else 0)) := by
  have hc := hm.came 0 (by omega)
  have hn := hc.inok.n
  have hat : ∀ (V : Wd) (hd : Hd), V.D.sks = W.D.sks → (V.D.sks.set 0 hd).getD 0 Hd.none = hd := by
    intro V hd hV
    rw [hV, sks_set (by rw [hm.len]; omega), if_pos rfl]
  rcases ra with ⟨fa, rfl⟩ | ⟨fa, cs, L', a, da, sa, _, rfl⟩
  · have fa' : 268435456 < wsum (W.D.sks.getD 0 Hd.none).sk.lv + 1 := fa
    rcases rb with ⟨_, rfl⟩ | ⟨fb, _⟩
    · rw [if_neg (by intro h; omega)]
      show usum q (W.D.sks.getD 0 Hd.none).sk.lv + usum q (W.D.sks.getD 0 Hd.none).sk.lv = _
      omega
    · have fb' : wsum (W.D.sks.getD 0 Hd.none).sk.lv + 1 ≤ 268435456 := fb
      omega
  · have fa' : wsum (W.D.sks.getD 0 Hd.none).sk.lv + 1 ≤ 268435456 := fa
    rcases rb with ⟨fb, _⟩ | ⟨_, cs', T', a', db, sb, _, rfl⟩
    · have fb' : 268435456 < wsum (W.D.sks.getD 0 Hd.none).sk.lv + 1 := fb
      omega
    · have sa' : settle (W.D.sks.getD 0 Hd.none).sk.k cs 0 (addL (W.D.sks.getD 0 Hd.none) x 1) = some (L', cs.length) := sa
      have sb' : settle (W.D.sks.getD 0 Hd.none).sk.k cs' 0 (addL (W.D.sks.getD 0 Hd.none) x 1) = some (T', cs'.length) := sb
      have e1 : ((Wd.took (W.recoin ⟨#[48]⟩) 0 x 1 L' cs.length a).D.sks.getD 0 Hd.none).sk.lv = L' := by
        show (((W.recoin ⟨#[48]⟩).D.sks.set 0 _).getD 0 Hd.none).sk.lv = L'
        rw [hat (W.recoin ⟨#[48]⟩) _ rfl]
      have e2 : ((Wd.took (W.recoin ⟨#[49]⟩) 0 x 1 T' cs'.length a').D.sks.getD 0 Hd.none).sk.lv = T' := by
        show (((W.recoin ⟨#[49]⟩).D.sks.set 0 _).getD 0 Hd.none).sk.lv = T'
        rw [hat (W.recoin ⟨#[49]⟩) _ rfl]
      rw [e1, e2]
      have hup : usum q (addL (W.D.sks.getD 0 Hd.none) x 1) = usum q (W.D.sks.getD 0 Hd.none).sk.lv + (if x ≤ q ∧ (W.sd 0).n < 268435456 then 1 else 0) := by
        unfold addL
        rw [usum_with (by decide) (Nat.zero_le _), Nat.pow_zero, Nat.one_mul]
        congr 1
        by_cases hx : x ≤ q
        · rw [if_pos hx, if_pos ⟨hx, by omega⟩]
        · rw [if_neg hx, if_neg (fun h => hx h.1)]
      rw [← hup]
      have hl := (sh_settle (u := 0) rfl (by rw [Nat.zero_add]; exact sa') (by rw [Nat.zero_add]; exact sb')).2
      have hfew : cs.length ≤ 1 := by
        have h1 : nsum (addL (W.D.sks.getD 0 Hd.none) x 1) ≤ nsum (W.D.sks.getD 0 Hd.none).sk.lv + 1 := withFrom_nw (Nat.zero_le _)
        have h2 : (W.D.sks.getD 0 Hd.none).sk.lv.length ≤ (addL (W.D.sks.getD 0 Hd.none) x 1).length := withFrom_length_ge (Nat.zero_le _)
        have h3 := capSum_mono (k := (W.D.sks.getD 0 Hd.none).sk.k) h2
        have h4 := hc.inok.set
        have := settle_few (m := 1) (by omega) sa'
        omega
      have hLw : LvOk (putXs (W.sd 0) x) (addL (W.D.sks.getD 0 Hd.none) x 1) := LvOk.with (put_facts (x := x) (wt := 1) hc.len).2.2.1 (hc.lvok.mono (put_facts (x := x) (wt := 1) hc.len).2.2.2.1)
      refine settle_fair hLw sa' sb' hfew hl (fun h => ?_) (fun h => ?_)
      · rw [one_coin da h]; rfl
      · rw [one_coin db h]; rfl

end Go.Proofs.Ytklicjbpjigfdaa

/- DERIVED. The walks of the statement's own played and mid. -/
namespace Go.Proofs.Ytklicjbpjigfdaa
open Go.RowKit
variable {K : Nat → Prop} {w0 : World}

set_option maxHeartbeats 1000000 in
set_option maxRecDepth 100000 in
theorem mid_any (p d i : Nat) (q : Int) (ps : Nat → Nat) (W : Wd) (w : World) (h : WdSt K w0 w p d 3 ps W) (hi : i < 3) (hm : MInv W) :
    Calls Try.prog 20 #[.pointer (some ⟨p, 0, none⟩), .int .i64 (i : Int), .int .i64 q] w fun e w' => e = .returned (.tuple #[.int .i64 (usum q (W.D.sks.getD i Hd.none).sk.lv : Int), .bool true]) ∧ Below w.heap.size w w' := by
  have hc := hm.came i hi
  have hro := hm.roomy i hi
  obtain ⟨own, vs, vx, vw, h, _⟩ := h
  obtain ⟨gs, cs0, evs, hptr⟩ := h.ptr hi
  obtain ⟨c0, c1, c2, c3, c4, c5, c6, cz⟩ := blk7 h.blk
  rw [evs] at c1
  have hil : i < W.D.sks.length := by rw [hm.len]; exact hi
  have hss := ssum_small hc hro
  have HRK := hid (deskRank d W.D i q w h.desk hil hc.inok.ok (fun j _ => (hc.lvok.at j).1) hss)
  have hub := usum_le q (W.D.sks.getD i Hd.none).sk.lv
  have hcnt := hc.inok.ok.cnt
  have hnw := hc.inok.n
  have HPB := hid h.blk
  have hpz := lt_of_blk' h.blk
  have HSD := hid (h.side i hi).blk
  have hsz := lt_of_blk' (h.side i hi).blk
  have HRW := hid (fun (w' : World) (hb : Below w.heap.size w w') => by
    obtain ⟨g', c', e', hp'⟩ := (h.below hb).ptr hi
    rw [evs] at e'
    cases e'
    exact hp')
  have hs1 : (0 : Int) ≤ (i : Int) := by omega
  have hs2 : (i : Int) < 3 := by omega
  generalize W.D.sks.getD i Hd.none = de at *
  generalize rkLow q de.sk.lv de.sk.lo de.sk.hi = rl at *
  generalize rkHigh q de.sk.lv de.sk.lo de.sk.hi = rh at *
  generalize hus : usum q de.sk.lv = us at *
  generalize wsum de.sk.lv = ws at *
  generalize ps i = pi at *
  generalize hn9 : (W.sd i).n = sn at *
  have HUS := hid hus
  clear hc hro h hus hil
  go_enter Try.func20, Try.ntmps20
  go_wp2_with fail
  refine HRK.out.mono ?_
  rintro e w1 ⟨he, hb1⟩
  have hp1 := (hb1.block _ hpz).trans HPB.out
  have hq1 := (hb1.block _ hsz).trans HSD.out
  have s2 : w1.cell? ⟨pi, 2, none⟩ = some (.int .i64 (sn : Int)) := (blk6 hq1).2.2.1
  have hptr1 := HRW.out w1 hb1
  clear c0 c1 c2 c3 c4 c5 c6 cz
  obtain ⟨c0, c1, c2, c3, c4, c5, c6, cz⟩ := blk7 hp1
  rw [evs] at c1
  have HB1 := hid hb1
  have hpz1 := lt_of_blk' hp1
  have hgz1 : gs < w1.heap.size := World.block_lt_of_cell? _ _ hptr1
  clear hptr
  have hsz1 := lt_of_blk' hq1
  clear hb1 hp1 hq1 HRK hn9
  by_cases h0 : sn = 0
  · have hw0 : ws = 0 := by omega
    have hu0 : us = 0 := by omega
    rw [if_pos hw0] at he
    subst he
    subst h0
    subst hu0
    clear hnw hub hw0
    go_wp2_with fail
    go_quiet (fail)
    go_wp2_with fail
    go_ret2
    refine ⟨?_, below_drewN (HB1.out.alloc HB1.out.size _) _⟩
    simp
  · have hw0 : ¬ ws = 0 := by omega
    rw [if_neg hw0] at he
    subst he
    have h0' : ((sn : Int) == 0) = false := by simpa using h0
    clear hnw
    go_wp2_with fail
    go_ret2
    refine ⟨?_, HB1.out.alloc HB1.out.size _⟩
    simp

end Go.Proofs.Ytklicjbpjigfdaa

/- DERIVED. The walk of the statement Fair: it returns true, and nothing that was there has turned. -/
namespace Go.Proofs.Ytklicjbpjigfdaa
open Go.RowKit
variable {K : Nat → Prop} {w0 : World}

/-- The left one is given other coins. -/
theorem Two.recoin {w : World} {pA dA pB dB : Nat} {psA psB : Nat → Nat} {WA WB : Wd} (h : Two K w0 w pA dA psA WA pB dB psB WB) (c : ByteArray) : Two K w0 ((w.setCell ⟨pA, 2, none⟩ (.string c)).setCell ⟨pA, 3, none⟩ (.int .i64 0)) pA dA psA (WA.recoin c) pB dB psB WB := by
  obtain ⟨K', hop, hcl⟩ := h.opened
  exact hcl _ _ ((hop.setCoins c).setAt 0)
theorem Two.cells {w : World} {pA dA pB dB : Nat} {psA psB : Nat → Nat} {WA WB : Wd} (h : Two K w0 w pA dA psA WA pB dB psB WB) : pA < w.heap.size ∧ pB < w.heap.size ∧ pA ≠ pB ∧ (∃ c, w.cell? ⟨pA, 2, none⟩ = some (.string c)) ∧ (∃ a : Nat, w.cell? ⟨pA, 3, none⟩ = some (.int .i64 (a : Int))) ∧ (∀ o, w.frozen? ⟨pA, o, none⟩ = false) ∧ (∃ c, w.cell? ⟨pB, 2, none⟩ = some (.string c)) ∧ (∃ a : Nat, w.cell? ⟨pB, 3, none⟩ = some (.int .i64 (a : Int))) ∧ (∀ o, w.frozen? ⟨pB, o, none⟩ = false) := by
  obtain ⟨oA, a1, a2, a3, oB, b1, b2, b3, hA, hB, hd, _⟩ := h
  have e1 := blk7 hA.blk
  have e2 := blk7 hB.blk
  refine ⟨lt_of_blk' hA.blk, lt_of_blk' hB.blk, fun e => ?_, ⟨_, e1.2.2.1⟩, ⟨_, e1.2.2.2.1⟩, e1.2.2.2.2.2.2.2, ⟨_, e2.2.2.1⟩, ⟨_, e2.2.2.2.1⟩, e2.2.2.2.2.2.2.2⟩
  have h1 := hd pA (by rw [hA.op]; omega)
  rw [e, hB.op] at h1
  omega
theorem WdSt.cell_n {w : World} {p d i : Nat} {ps : Nat → Nat} {W : Wd} (h : WdSt K w0 w p d 3 ps W) (hi : i < 3) : ∃ gs cs0, w.cell? ⟨p, 1, none⟩ = some (.slice (some ⟨gs, 0, none⟩) 3 cs0) ∧ w.cell? ⟨gs, i, none⟩ = some (.pointer (some ⟨ps i, 0, none⟩)) ∧ w.cell? ⟨ps i, 2, none⟩ = some (.int .i64 ((W.sd i).n : Int)) := by
  obtain ⟨own, vs, vx, vw, h9, _⟩ := h
  obtain ⟨gs, cs0, evs, hptr⟩ := h9.ptr hi
  have e1 := (blk7 h9.blk).2.1
  rw [evs] at e1
  exact ⟨gs, cs0, e1, hptr, (blk6 (h9.side i hi).blk).2.2.1⟩
theorem Two.addA {w : World} {pA dA pB dB : Nat} {psA psB : Nat → Nat} {WA WB : Wd} (h : Two K w0 w pA dA psA WA pB dB psB WB) (hm : MInv WA) (x : Int) :
    Calls Try.prog 21 #[.pointer (some ⟨pA, 0, none⟩), .int .i64 0, .int .i64 x, .int .i64 1] w fun e w' => e = .returned (.bool true) ∧ ∃ W', Two K w0 w' pA dA psA W' pB dB psB WB ∧ AddR 0 x 1 WA W' := by
  obtain ⟨K', hop, hcl⟩ := h.opened
  refine ((wadd_any pA dA 0 1 x psA WA w hop (by omega) hm.len (hm.uns 0 (by omega)) (hm.came 0 (by omega)).inok hm.tape (by omega) (by omega) hm.at_ hm.coins hm.most hm.small : Calls Try.prog 21 #[.pointer (some ⟨pA, 0, none⟩), .int .i64 0, .int .i64 x, .int .i64 1] w _)).mono ?_
  rintro e w' ⟨rfl, hp⟩
  obtain ⟨W', h1, h2⟩ := hp.rel
  exact ⟨rfl, W', hcl _ _ h1, h2⟩

set_option maxHeartbeats 4000000 in
set_option maxRecDepth 100000 in
theorem fair_walk (k : Int) (coins : ByteArray) (ao : Option Addr) (n cap : Nat) (x q : Int) (ss : List St) (w : World) (hk1 : -9223372036854775808 ≤ k) (hk2 : k ≤ 9223372036854775807) (hcs : coins.size ≤ 140737488355328) (hl : ss.length = n) (hr : n * 32 ≤ 140737488351232) (hrg : ∀ s ∈ ss, InRange s.a ∧ InRange s.b ∧ InRange s.c) (hc : StepsAt w ao n ss) :
    Calls Try.prog 7 #[.int .i64 k, .string coins, .slice ao n cap, .int .i64 x, .int .i64 q] w fun e w' => e = .returned (.bool true) ∧ Below w.heap.size w w' := by
  have HPL := hid (fun (w' : World) (h : StepsAt w' ao n ss) => played_any k coins ao n cap ss w' hk1 hk2 hcs hl hr hrg h)
  have HC := hid hc
  clear hc hrg hl
  go_enter Try.func7, Try.ntmps7
  go_wp2_with fail
  refine (HPL.out _ HC.out).mono ?_
  rintro e w1 ⟨pA, dA, psA, WA, rfl, hst1, hm1, hp1⟩
  have hk1' := hst1.keeps
  have HC1 := hid (HC.out.keep hk1'.size (fun b hb => hk1'.block b hb))
  have HST1 := hid hst1
  have HM := hid hm1
  have HP1 := hid hp1
  clear hst1 hm1 hp1 hk1' HC
  go_wp2_with fail
  refine (HPL.out _ HC1.out).mono ?_
  rintro e w2 ⟨pB, dB, psB, WB, rfl, hst2, hm2, hp2⟩
  have heq : WB = WA := hp2.det HP1.out
  subst heq
  have htw := Two.begun HST1.out hst2
  have HTW := hid htw
  have HMD := hid (fun (p d : Nat) (ps : Nat → Nat) (W : Wd) (w' : World) (K' : Nat → Prop) (w0' : World) (h : WdSt K' w0' w' p d 3 ps W) (hm : MInv W) => (mid_any p d 0 q ps W w' h (by omega) hm : Calls Try.prog 20 #[.pointer (some ⟨p, 0, none⟩), .int .i64 0, .int .i64 q] w' _))
  have HM1 := hid (HMD.out pA dA psA WB w2 _ _ htw.left HM.out)
  clear hst2 hm2 hp2 HPL HC1 HST1 HP1 htw
  go_wp2_with fail
  refine HM1.out.mono ?_
  rintro e w3 ⟨rfl, hb3⟩
  have ht3 := HTW.out.below hb3
  have HT3 := hid ht3
  obtain ⟨gs, cs0, y0, y1, y2⟩ := ht3.left.cell_n (i := 0) (by omega)
  obtain ⟨hpa, hpb, hne, ⟨ca, z0⟩, ⟨aa, z1⟩, za, ⟨cb, z2⟩, ⟨ab, z3⟩, zb⟩ := ht3.cells
  have hT4 := (((ht3.recoin ⟨#[48]⟩).swap.recoin ⟨#[49]⟩)).swap
  have HT4 := hid hT4
  have hnb : (WB.sd 0).n ≤ 268435456 := by rw [(HM.out.came 0 (by omega)).inok.n]; exact (HM.out.came 0 (by omega)).inok.ok.cnt
  have hub := usum_le q (WB.D.sks.getD 0 Hd.none).sk.lv
  have hcnt := (HM.out.came 0 (by omega)).inok.ok.cnt
  have hup : ∃ up : Nat, up = (if x ≤ q ∧ (WB.sd 0).n < 268435456 then 1 else 0) := ⟨_, rfl⟩
  obtain ⟨up, hupe⟩ := hup
  have HUP := hid hupe
  have HAA := hid (hT4.addA (HM.out.recoin ⟨#[48]⟩ (by decide)) x)
  clear ht3 hT4 HM1 HTW hb3 hupe
  generalize hus : usum q (WB.D.sks.getD 0 Hd.none).sk.lv = us at *
  have HUS := hid hus
  clear hus
  go_upto_region 7 with fail
  go_cut [56] from 42 (fun s56 wc => s56 = .bool (decide (x ≤ q ∧ (WB.sd 0).n < 268435456)) ∧ w3 = wc)
  case first =>
    by_cases hx : x ≤ q
    · have hx' : decide (x ≤ q) = true := decide_eq_true hx
      by_cases hn : (WB.sd 0).n < 268435456
      · have hn' : decide (((WB.sd 0).n : Int) < 268435456) = true := decide_eq_true (by omega)
        have HU : Hid (decide (x ≤ q ∧ (WB.sd 0).n < 268435456) = true) := decide_eq_true ⟨hx, hn⟩
        go_wp2_with fail
        go_meet
        exact ⟨by rw [HU.out], rfl⟩
      · have hn' : decide (((WB.sd 0).n : Int) < 268435456) = false := decide_eq_false (by omega)
        have HU : Hid (decide (x ≤ q ∧ (WB.sd 0).n < 268435456) = false) := decide_eq_false (fun h => hn h.2)
        go_wp2_with fail
        go_meet
        exact ⟨by rw [HU.out], rfl⟩
    · have hx' : decide (x ≤ q) = false := decide_eq_false hx
      have HU : Hid (decide (x ≤ q ∧ (WB.sd 0).n < 268435456) = false) := decide_eq_false (fun h => hx h.1)
      go_wp2_with fail
      go_meet
      exact ⟨by rw [HU.out], rfl⟩
  case rest =>
  obtain ⟨rfl, rfl⟩ := hcut
  have HUB : Hid (up = if decide (x ≤ q ∧ (WB.sd 0).n < 268435456) = true then 1 else 0) := by
    rw [HUP.out]
    by_cases h9 : x ≤ q ∧ (WB.sd 0).n < 268435456
    · rw [if_pos h9, if_pos (decide_eq_true h9)]; exact rfl
    · rw [if_neg h9, if_neg (by rw [decide_eq_false h9]; decide)]; exact rfl
  generalize decide (x ≤ q ∧ (WB.sd 0).n < 268435456) = cnd at *
  go_upto_if 56 with fail
  go_cut [15] from 42 (fun s15 wc => s15 = .int .i64 (up : Int) ∧ w3 = wc)
  case first =>
    cases cnd
    · have HU : Hid (up = 0) := HUB.out
      go_wp2_with fail
      go_meet
      exact ⟨by rw [HU.out]; rfl, rfl⟩
    · have HU : Hid (up = 1) := HUB.out
      go_wp2_with fail
      go_meet
      exact ⟨by rw [HU.out]; rfl, rfl⟩
  case rest =>
  obtain ⟨rfl, rfl⟩ := hcut
  have hup1 : up ≤ 1 := by rw [HUP.out]; split <;> omega
  clear y0 y1 y2
  go_wp2_with fail
  refine HAA.out.mono ?_
  rintro e w4 ⟨rfl, A', hT5, hra⟩
  have HAB := hid (hT5.swap.addA (HM.out.recoin ⟨#[49]⟩ (by decide)) x)
  have HRA := hid hra
  clear hT5 hra HAA z0 z1 z2 z3 za zb
  go_wp2_with fail
  refine HAB.out.mono ?_
  rintro e w5 ⟨rfl, B', hT6, hrb⟩
  have hT7 := hT6.swap
  have hmA : MInv A' := HRA.out.inv (HM.out.recoin ⟨#[48]⟩ (by decide)) (by omega) (by omega) (by omega)
  have hmB : MInv B' := hrb.inv (HM.out.recoin ⟨#[49]⟩ (by decide)) (by omega) (by omega) (by omega)
  have hfm := fair_math (q := q) HM.out HRA.out hrb
  rw [HUS.out, ← HUP.out] at hfm
  have HMA := hid (HMD.out pA dA psA A' w5 _ _ hT7.left hmA)
  have HMB := hid (fun (w' : World) (hb : Below w5.heap.size w5 w') => HMD.out pB dB psB B' w' _ _ (hT7.below hb).swap.left hmB)
  have hKE := hT7.keeps
  have HKE := hid hKE
  have hua := usum_le q (A'.D.sks.getD 0 Hd.none).sk.lv
  have hub2 := usum_le q (B'.D.sks.getD 0 Hd.none).sk.lv
  have hca := (hmA.came 0 (by omega)).inok.ok.cnt
  have hcb := (hmB.came 0 (by omega)).inok.ok.cnt
  generalize usum q (A'.D.sks.getD 0 Hd.none).sk.lv = ua at *
  generalize usum q (B'.D.sks.getD 0 Hd.none).sk.lv = ub at *
  have HFM := hid hfm
  clear hT6 hT7 hrb HAB HRA hKE HMD hfm hmA hmB
  go_wp2_with fail
  refine HMA.out.mono ?_
  rintro e w6 ⟨rfl, hb6⟩
  have HB6 := hid hb6
  clear hb6 HMA
  go_wp2_with fail
  refine (HMB.out _ HB6.out).mono ?_
  rintro e w7 ⟨rfl, hb7⟩
  have HB7 : Hid (Below w5.heap.size w5 w7) := HB6.out.trans (hb7.mono HB6.out.size)
  have hfe : ((ua : Int) + (ub : Int) == 2 * ((us : Int) + (up : Int))) = true := by
    have := HFM.out
    have h9 : (ua : Int) + (ub : Int) = 2 * ((us : Int) + (up : Int)) := by omega
    rw [h9]; simp
  clear hb7 HMB
  go_wp2_with fail
  go_ret
  have hkf := HKE.out.below HB7.out (fun b e => e)
  exact ⟨by simp, ⟨hkf.os, hkf.tape, hkf.output, hkf.size, fun b hb => hkf.block b hb⟩⟩

end Go.Proofs.Ytklicjbpjigfdaa
