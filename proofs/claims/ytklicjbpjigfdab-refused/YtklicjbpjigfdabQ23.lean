/- DERIVED. The walk of the statement Refused where there is a desk. -/
import Derived.Test.YtklicjbpjigfdabQ22
import Derived.Test.YtklicjbpjigfdabRows
import Derived.Test.YtklicjbpjigfdabQ17
import Derived.WalkKit
import Derived.ProofKit
import Derived.OpenShut
import Derived.ShutString
import Derived.ChangeOld
import Derived.Below
import Derived.SizedLaws
import Derived.Deep.Slices
import Derived.Lib.SmallJoins
namespace Go.Proofs.Ytklicjbpjigfdab
open Go.RowKit
attribute [local go_sem ↓] Go.wp_at_zero Go.wp_at_succ

set_option maxHeartbeats 2000000 in
set_option maxRecDepth 100000 in
theorem refused_yes (rm : Nat) (ao : Option Addr) (n cap : Nat) (cs : List Cl) (w : World) (h1 : 1 ≤ rm) (h2 : rm ≤ 8) (hl : cs.length = n) (hn : n * 48 ≤ 140737488351232) (hrg : ∀ c ∈ cs, c.c ≤ 9223372036854775807 ∧ c.s.size ≤ 140737488355328) (hc : CallsAt w ao n cs) :
    Calls Try.prog 7 #[.int .i64 (rm : Int), .slice ao n cap] w fun e w' => e = .returned (.bool true) ∧ Below w.heap.size w w' := by
  have HNW := hid (new_any rm w h1 h2)
  have HC := hid hc
  have HL := hid hl
  have HRG := hid hrg
  have hdi : DInv ⟨rm, [], []⟩ := ⟨h1, h2, Nat.zero_le _, Nat.zero_le _, fun i hi => by simp at hi, fun i hi => by simp at hi⟩
  have HDI := hid hdi
  have HLKK := hid (fun (w1 : World) (hd1 : DeskAt (fun b => b = w.heap.size) w1 w.heap.size ⟨rm, [], []⟩) (hb1 : Below w.heap.size w w1) => look_any w1.heap.size w.heap.size ⟨rm, [], []⟩ (bkOf ⟨rm, [], []⟩) (fun _ => 0) (w1.alloc (bkBlk w.heap.size (.slice none 0 0) ⟨rm, 0, []⟩)) (book_new hd1 hb1 (Nat.le_refl _)) (bkOf_len _) hdi)
  clear hc hrg hl hdi
  go_enter Try.func7, Try.ntmps7
  go_wp2_with fail
  refine HNW.out.mono ?_
  rintro e w1 ⟨rfl, hd1, hb1⟩
  have HLK := hid (HLKK.out w1 hd1 hb1)
  have HST := hid (book_new hd1 hb1 (Nat.le_refl _))
  have hbz := hb1.size
  clear hd1 hb1 HNW HLKK
  go_wp2_with fail
  refine HLK.out.mono ?_
  rintro e w2 ⟨v0, rfl, hS0, hf0, hb2⟩
  have hrf : RfSt w w2 w1.heap.size w.heap.size ⟨rm, [], []⟩ v0 := by
    obtain ⟨k1, k2⟩ := HST.out.fresh hb2
    exact ⟨_, _, _, k1, hS0, fun b hb => .inr ⟨hf0 b hb, ownsRow_lt hS0 hb⟩, fun b hb => .inl hb, k2⟩
  have HRF := hid hrf
  clear hrf hS0 hf0 hb2 HLK HST hbz
  generalize w1.heap.size = p at *
  go_wp2_with fail
  go_loopw [8, 9, 10] (fun s8 s9 s10 wr => ∃ (i : Nat) (D : Dk), i ≤ n ∧ s9 = .bool true ∧ s10 = .int .i64 (i : Int) ∧ Hid (DInv D) ∧ Hid (RfSt w wr p w.heap.size D s8)) (fun _ _ s10 _ => n - (intOf s10).toNat)
  case atStart => exact ⟨0, _, Nat.zero_le _, rfl, rfl, HDI, HRF⟩
  case round =>
    obtain ⟨i, D, hi, rfl, rfl, Hdi, Hrf⟩ := hrel
    clear HRF HDI
    obtain ⟨K1, w1', ps, hbk, hstr, hkv, hkw, hkp⟩ := Hrf.out
    by_cases hlt : i < n
    · have hlt' : i < cs.length := by rw [HL.out]; exact hlt
      obtain ⟨bs, off, rfl, hbz, q0, q1, q2, q3, q4⟩ := HC.out i hlt
      have hbk' : ∀ (w' : World), Keeps K1 w1' w' → ∀ o, w'.cell? ⟨bs, o, none⟩ = w.cell? ⟨bs, o, none⟩ := fun w' hk o => World.cell?_of_block ((hk.block bs (hkw bs hbz)).trans (hkp.block bs hbz))
      have HCE := hid hbk'
      have r0 := (hbk' wr hbk.keeps (off + i * 5)).trans q0
      have r1 := (hbk' wr hbk.keeps (off + i * 5 + 1)).trans q1
      have r2 := (hbk' wr hbk.keeps (off + i * 5 + 2)).trans q2
      have r3 := (hbk' wr hbk.keeps (off + i * 5 + 3)).trans q3
      have r4 := (hbk' wr hbk.keeps (off + i * 5 + 4)).trans q4
      have hmem : cs.getD i Cl.zero ∈ cs := by simp [List.getD, hlt']
      have hg := HRG.out _ hmem
      generalize cs.getD i Cl.zero = cl at *
      have HCA := hid (call_any p w.heap.size cl.kd cl.a cl.b cl.c cl.s D ps wr hbk Hdi.out hg.1 hg.2)
      have hs1 : (0 : Int) ≤ (i : Int) := by omega
      have hs2 : (i : Int) < (n : Int) := by omega
      have HKV := hid hkv
      have HKW := hid hkw
      have HKP := hid hkp
      have HSTR := hid hstr
      have HBK0 := hid hbk.keeps
      have HKL := hid hbk.kl
      clear hbk hstr hkv hkw hkp hbk' hmem Hrf
      go_wp2_with fail
      refine HCA.out.mono ?_
      intro e w3 hp
      obtain ⟨c, D', E', ps', rfl, hbk3, hrel⟩ := hp
      obtain ⟨hdi', hEl⟩ := hrel.dinv Hdi.out
      have HLK := hid (look_any p w.heap.size D' E' ps' w3 hbk3 hEl hdi')
      have HBK3 := hid hbk3
      have HREL := hid hrel
      have HDI' := hid hdi'
      clear hbk3 hrel hdi' hEl HCA r0 r1 r2 r3 r4
      go_wp2_with fail
      refine HLK.out.mono ?_
      rintro e w4 ⟨v1, rfl, hS1, hf1, hb4⟩
      obtain ⟨hbk4, hk4⟩ := HBK3.out.fresh hb4
      have hS5 : Strs w4 u8 D.sks.length (txtOf D) := ownsRow_block HSTR.out (fun b hb => (hk4.block b (HKV.out b hb)).trans (HBK0.out.block b (HKV.out b hb)).symm)
      have HS5 := hid hS5
      have HS1 := hid hS1
      have HF1 := hid hf1
      have HBK4 := hid hbk4
      have y0 := (HCE.out w4 hk4 (off + i * 5)).trans q0
      have y1 := (HCE.out w4 hk4 (off + i * 5 + 1)).trans q1
      have y2 := (HCE.out w4 hk4 (off + i * 5 + 2)).trans q2
      have y3 := (HCE.out w4 hk4 (off + i * 5 + 3)).trans q3
      have y4 := (HCE.out w4 hk4 (off + i * 5 + 4)).trans q4
      have hbs4 : bs < w4.heap.size := Nat.lt_of_lt_of_le (Nat.lt_of_lt_of_le hbz HKP.out.size) hk4.size
      have HK9 : Hid (Keeps (fun b => b < w.heap.size) w w4) := ⟨hk4.os.trans HKP.out.os, hk4.tape.trans HKP.out.tape, hk4.output.trans HKP.out.output, Nat.le_trans HKP.out.size hk4.size, fun b hb => (hk4.block b (HKW.out b hb)).trans (HKP.out.block b hb)⟩
      have hd8 : D'.sks.length ≤ 8 := by have := HDI'.out.len; have := HDI'.out.room2; omega
      have HSL := hid (still_of HREL.out)
      clear hbk4 hk4 hS5 hS1 hf1 hb4 HLK q0 q1 q2 q3 q4
      by_cases hc0 : c = 0
      · subst hc0
        have HSI : Hid (∀ j, j < D.sks.length → (j : Int) ≠ (if onOne cl.kd then cl.a else -1) → txtOf D j = txtOf D' j) := fun j hj hne => HSL.out.2 j hj (by rw [if_pos rfl]; exact hne)
        have HAB : Hid (Calls Try.prog 27 #[.agg #[.int .i64 cl.kd, .int .i64 cl.a, .int .i64 cl.b, .int .i64 cl.c, .string cl.s]] w4 fun e w'' => e = .returned (.int .i64 (if onOne cl.kd then cl.a else -1)) ∧ Below w4.heap.size w4 w'') := about_any cl.kd cl.a cl.b cl.c cl.s w4
        generalize (if onOne cl.kd then cl.a else -1) = sA at *
        go_wp2_with fail
        refine HAB.out.mono ?_
        rintro e w5 ⟨rfl, hb5⟩
        have HB5 := hid hb5
        clear hb5
        have HSS := hid (still_any u8 v1 D.sks.length D'.sks.length (txtOf D) (txtOf D') sA w5 (ownsRow_below HS5.out HB5.out (fun _ e => ownsRow_lt HS5.out e)) (ownsRow_below HS1.out HB5.out (fun _ e => ownsRow_lt HS1.out e)) HSL.out.1 hd8 HSI.out)
        have z0 := (HB5.out.cell (p := ⟨bs, off + i * 5, none⟩) hbs4).trans y0
        have z1 := (HB5.out.cell (p := ⟨bs, off + i * 5 + 1, none⟩) hbs4).trans y1
        have z2 := (HB5.out.cell (p := ⟨bs, off + i * 5 + 2, none⟩) hbs4).trans y2
        have z3 := (HB5.out.cell (p := ⟨bs, off + i * 5 + 3, none⟩) hbs4).trans y3
        have z4 := (HB5.out.cell (p := ⟨bs, off + i * 5 + 4, none⟩) hbs4).trans y4
        have hbs5 : bs < w5.heap.size := Nat.lt_of_lt_of_le hbs4 HB5.out.size
        clear y0 y1 y2 y3 y4
        go_wp2_with fail
        refine HSS.out.mono ?_
        rintro e w6 ⟨rfl, hb6⟩
        have x0 := (hb6.cell (p := ⟨bs, off + i * 5, none⟩) hbs5).trans z0
        have x1 := (hb6.cell (p := ⟨bs, off + i * 5 + 1, none⟩) hbs5).trans z1
        have x2 := (hb6.cell (p := ⟨bs, off + i * 5 + 2, none⟩) hbs5).trans z2
        have x3 := (hb6.cell (p := ⟨bs, off + i * 5 + 3, none⟩) hbs5).trans z3
        have x4 := (hb6.cell (p := ⟨bs, off + i * 5 + 4, none⟩) hbs5).trans z4
        have hb46 := HB5.out.trans (hb6.mono HB5.out.size)
        have HCO := hid (bcoins_any p w.heap.size cl.kd cl.a cl.b cl.c 0 cl.s D D' E' ps' w6 (HBK4.out.below hb46) HREL.out)
        have hbs6 : bs < w6.heap.size := Nat.lt_of_lt_of_le hbs5 hb6.size
        clear hb6 hb46 HSS z0 z1 z2 z3 z4
        go_wp2_with fail
        refine HCO.out.mono ?_
        rintro e w7 ⟨rfl, hbk7⟩
        have HRF7 : Hid (RfSt w w7 p w.heap.size D' v1) := by
          have hk7 := hbk7.keeps
          exact ⟨_, _, _, hbk7, ownsRow_block HS1.out (fun b hb => hk7.block b (.inr ⟨HF1.out b hb, ownsRow_lt HS1.out hb⟩)), fun b hb => .inr ⟨HF1.out b hb, ownsRow_lt HS1.out hb⟩, fun b hb => .inl (HKW.out b hb), HK9.out⟩
        clear hbk7 HCO
        go_wp2_with fail
        go_roundw
        case rel => exact ⟨i + 1, D', by omega, by simp, by go_num, HDI', HRF7⟩
        case measure => simp [intOf]; omega
      · have hc0' : (c == 0) = false := by simpa using hc0
        have HSI : Hid (∀ j, j < D.sks.length → (j : Int) ≠ (-1) → txtOf D j = txtOf D' j) := fun j hj hne => HSL.out.2 j hj (by rw [if_neg hc0]; exact hne)
        have HB5 : Hid (Below w4.heap.size w4 w4) := Below.refl _ _
        have HSS := hid (still_any u8 v1 D.sks.length D'.sks.length (txtOf D) (txtOf D') (-1) w4 (ownsRow_below HS5.out HB5.out (fun _ e => ownsRow_lt HS5.out e)) (ownsRow_below HS1.out HB5.out (fun _ e => ownsRow_lt HS1.out e)) HSL.out.1 hd8 HSI.out)
        have z0 := (HB5.out.cell (p := ⟨bs, off + i * 5, none⟩) hbs4).trans y0
        have z1 := (HB5.out.cell (p := ⟨bs, off + i * 5 + 1, none⟩) hbs4).trans y1
        have z2 := (HB5.out.cell (p := ⟨bs, off + i * 5 + 2, none⟩) hbs4).trans y2
        have z3 := (HB5.out.cell (p := ⟨bs, off + i * 5 + 3, none⟩) hbs4).trans y3
        have z4 := (HB5.out.cell (p := ⟨bs, off + i * 5 + 4, none⟩) hbs4).trans y4
        have hbs5 : bs < w4.heap.size := Nat.lt_of_lt_of_le hbs4 HB5.out.size
        clear y0 y1 y2 y3 y4
        go_wp2_with fail
        refine HSS.out.mono ?_
        rintro e w6 ⟨rfl, hb6⟩
        have x0 := (hb6.cell (p := ⟨bs, off + i * 5, none⟩) hbs5).trans z0
        have x1 := (hb6.cell (p := ⟨bs, off + i * 5 + 1, none⟩) hbs5).trans z1
        have x2 := (hb6.cell (p := ⟨bs, off + i * 5 + 2, none⟩) hbs5).trans z2
        have x3 := (hb6.cell (p := ⟨bs, off + i * 5 + 3, none⟩) hbs5).trans z3
        have x4 := (hb6.cell (p := ⟨bs, off + i * 5 + 4, none⟩) hbs5).trans z4
        have hb46 := HB5.out.trans (hb6.mono HB5.out.size)
        have HCO := hid (bcoins_any p w.heap.size cl.kd cl.a cl.b cl.c c cl.s D D' E' ps' w6 (HBK4.out.below hb46) HREL.out)
        have hbs6 : bs < w6.heap.size := Nat.lt_of_lt_of_le hbs5 hb6.size
        clear hb6 hb46 HSS z0 z1 z2 z3 z4
        go_wp2_with fail
        refine HCO.out.mono ?_
        rintro e w7 ⟨rfl, hbk7⟩
        have HRF7 : Hid (RfSt w w7 p w.heap.size D' v1) := by
          have hk7 := hbk7.keeps
          exact ⟨_, _, _, hbk7, ownsRow_block HS1.out (fun b hb => hk7.block b (.inr ⟨HF1.out b hb, ownsRow_lt HS1.out hb⟩)), fun b hb => .inr ⟨HF1.out b hb, ownsRow_lt HS1.out hb⟩, fun b hb => .inl (HKW.out b hb), HK9.out⟩
        clear hbk7 HCO
        go_wp2_with fail
        go_roundw
        case rel => exact ⟨i + 1, D', by omega, by simp, by go_num, HDI', HRF7⟩
        case measure => simp [intOf]; omega
    · have hk := hbk.keeps
      have hB : Below w.heap.size w wr := ⟨hk.os.trans hkp.os, hk.tape.trans hkp.tape, hk.output.trans hkp.output, Nat.le_trans hkp.size hk.size, fun b hb => (hk.block b (hkw b hb)).trans (hkp.block b hb)⟩
      have HB := hid hB
      clear hbk hstr hkv hkw hkp hk hB Hrf
      go_wp2_with fail
      go_ret
      exact ⟨rfl, HB.out⟩

end Go.Proofs.Ytklicjbpjigfdab

/- DERIVED. A list of steps that came in, opened: its length, its steps' cells, its weight in bytes. -/
namespace Go.Proofs.Ytklicjbpjigfdab
open Go.ChangeShapes Go.WideShapes Go.ChangeAt Go.RowKit Go.Deep Go.Joins
set_option linter.unusedVariables false

theorem cellsStep : Try.prog.cellsOf 39 = 4 := by kernel_rfl
theorem cellsInt : Try.prog.cellsOf 3 = 1 := by kernel_rfl
theorem bytesStep : Try.prog.bytesOf 39 = 32 := by kernel_rfl

/-- The steps of a list that came in. -/
def StepsIn (w : World) (ao : Option Addr) (n : Nat) (ss : List St) : Prop :=
  ss.length = n ∧ (∀ s ∈ ss, InRange s.kd ∧ InRange s.a ∧ InRange s.b ∧ InRange s.c) ∧
  ∀ i, i < n → ∃ b off, ao = some ⟨b, off, none⟩ ∧ b < w.heap.size ∧ w.cell? ⟨b, off + i * 4, none⟩ = some (.int .i64 (ss.getD i St.zero).kd) ∧ w.cell? ⟨b, off + i * 4 + 1, none⟩ = some (.int .i64 (ss.getD i St.zero).a) ∧ w.cell? ⟨b, off + i * 4 + 2, none⟩ = some (.int .i64 (ss.getD i St.zero).b) ∧ w.cell? ⟨b, off + i * 4 + 3, none⟩ = some (.int .i64 (ss.getD i St.zero).c)

theorem cell_lt {w : World} {b o : Nat} {v : Value} (h : w.cell? ⟨b, o, none⟩ = some v) : b < w.heap.size := by
  apply Decidable.byContradiction
  intro hn
  have : w.heap[b]? = none := Array.getElem?_eq_none (by omega)
  simp [World.cell?, this] at h

theorem four {α : Type} : ∀ {l : List α}, l.length = 4 → ∃ a b c d, l = [a, b, c, d]
  | [a, b, c, d], _ => ⟨a, b, c, d, rfl⟩

section
variable {H : Type} {enc : TypeId × Value → H}

theorem open_step {W : World} {base : Nat} {sp : Nat → Bool} {held : Bool} {n : Nat} {cs : List Value} {x : DataW H × List MemPlace} (h : DataW.trod enc Try.prog W base sp held n 39 cs = some x) :
    ∃ s : St, cs = s.cells ∧ InRange s.kd ∧ InRange s.a ∧ InRange s.b ∧ InRange s.c := by
  obtain ⟨y0, y1, y2, y3, m, _, hl, h0, h1, h2, h3⟩ := trod_struct4 Try.underlying39 h
  rw [cellsStep] at hl
  obtain ⟨c0, c1, c2, c3, rfl⟩ := four hl
  simp only [cellsInt, List.drop, List.take] at h0 h1 h2 h3
  obtain ⟨n0, e0, _, b0⟩ := DataW.trod_int Try.underlying3 h0
  obtain ⟨n1, e1, _, b1⟩ := DataW.trod_int Try.underlying3 h1
  obtain ⟨n2, e2, _, b2⟩ := DataW.trod_int Try.underlying3 h2
  obtain ⟨n3, e3, _, b3⟩ := DataW.trod_int Try.underlying3 h3
  simp only [List.cons.injEq, and_true] at e0 e1 e2 e3
  subst e0 e1 e2 e3
  exact ⟨⟨n0, n1, n2, n3⟩, rfl, bounds_i64 b0, bounds_i64 b1, bounds_i64 b2, bounds_i64 b3⟩

theorem open_steps {W : World} {ao : Option Addr} {n cap : Nat} {d : DataW H} {p : List MemPlace} (h : DataW.Trod enc Try.prog W 0 (fun _ => true) true 22 (.slice ao n cap) d p) :
    (∃ ss, StepsIn W ao n ss) ∧ (d = .nil ∧ n = 0 ∨ ∃ elems spare, d = .slice elems spare ∧ elems.length = n) := by
  obtain ⟨fuel, hf⟩ := h
  rcases open_slice Try.underlying22 hf with ⟨hcs, hx⟩ | ⟨a, len, cp, m, k, D, Pl, hcs, _, hl, hm, hmm, hx, hall⟩
  · simp [Value.cells] at hcs
    obtain ⟨rfl, rfl, rfl⟩ := hcs
    simp only [Prod.mk.injEq] at hx
    exact ⟨⟨[], rfl, fun s hs => (by cases hs), fun i hi => absurd hi (Nat.not_lt_zero _)⟩, .inl ⟨hx.1, rfl⟩⟩
  · simp [Value.cells] at hcs
    obtain ⟨rfl, rfl, rfl⟩ := hcs
    simp only [Prod.mk.injEq] at hx
    simp only [if_true] at hmm
    subst hmm
    refine ⟨?_, .inr ⟨_, _, hx.1, by simp⟩⟩
    rw [cellsStep] at hall
    haveI : Inhabited St := ⟨St.zero⟩
    obtain ⟨f, hf⟩ := choose_lt (n := n) (p := fun i (s : St) => W.cells? 0 (a.add (i * 4)) 4 = some s.cells ∧ InRange s.kd ∧ InRange s.a ∧ InRange s.b ∧ InRange s.c) (fun i hi => by
      obtain ⟨cs', h1, h2⟩ := hall i (Nat.lt_of_lt_of_le hi hl)
      obtain ⟨s, rfl, hs⟩ := open_step h2
      exact ⟨s, h1, hs⟩)
    refine ⟨(List.range n).map f, by simp, fun s hs => ?_, fun i hi => ?_⟩
    · obtain ⟨i, hi, rfl⟩ := List.mem_map.1 hs
      exact (hf i (List.mem_range.1 hi)).2
    · obtain ⟨_, _, hc⟩ := World.cells?_some (hf i hi).1
      obtain ⟨b, off, spot⟩ := a
      have hg : ((List.range n).map f).getD i St.zero = f i := by simp [List.getD, hi]
      rw [hg]
      have c0 := hc 0 (by decide)
      have c1 := hc 1 (by decide)
      have c2 := hc 2 (by decide)
      have c3 := hc 3 (by decide)
      simp only [St.cells, List.getElem?_cons_zero, List.getElem?_cons_succ] at c0 c1 c2 c3
      have hspot : spot = none := by
        have h0 := (World.cells?_some (hf 0 (by omega)).1).2.2 0 (by decide)
        simp only [St.cells, List.getElem?_cons_zero] at h0
        simpa [Addr.add] using World.cell?_spot h0
      subst hspot
      simp only [Addr.add_lit, Nat.add_zero] at c0 c1 c2 c3
      exact ⟨b, off, rfl, cell_lt c0, c0, c1, c2, c3⟩

end
end Go.Proofs.Ytklicjbpjigfdab

/- DERIVED. A list of calls that came in, opened: its length, its calls' cells, its weight in bytes, its strings' sizes. -/
namespace Go.Proofs.Ytklicjbpjigfdab
open Go.ChangeShapes Go.WideShapes Go.ChangeAt Go.RowKit Go.Deep Go.Joins
set_option linter.unusedVariables false

theorem cellsCall : Try.prog.cellsOf 67 = 5 := by kernel_rfl
theorem cellsStr : Try.prog.cellsOf 9 = 1 := by kernel_rfl
theorem bytesCall : Try.prog.bytesOf 67 = 48 := by kernel_rfl

theorem five {α : Type} : ∀ {l : List α}, l.length = 5 → ∃ a b c d e, l = [a, b, c, d, e]
  | [a, b, c, d, e], _ => ⟨a, b, c, d, e, rfl⟩

def Cl.cells (c : Cl) : List Value := [.int .i64 c.kd, .int .i64 c.a, .int .i64 c.b, .int .i64 c.c, .string c.s]

section
variable {H : Type} {enc : TypeId × Value → H}

theorem weightsAll_mem {P : Program} {e : TypeId} {x : DataW H} {k : Nat} : ∀ {l : List (DataW H)}, x ∈ l → k ∈ x.weights P e → k ∈ DataW.weightsAll P e l
  | [], h, _ => by cases h
  | d :: r, h, hk => by
    unfold DataW.weightsAll
    rcases List.mem_cons.1 h with rfl | h
    · exact List.mem_append_left _ hk
    · exact List.mem_append_right _ (weightsAll_mem h hk)

theorem trod_struct5 {P : Program} {w : World} {base : Nat} {spare : Nat → Bool} {held : Bool} {t : TypeId} {f0 f1 f2 f3 f4 : Field} {fuel : Nat} {cs : List Value} {x : DataW H × List MemPlace} (ht : P.underlying t = some (.struct #[f0, f1, f2, f3, f4])) (h : DataW.trod enc P w base spare held fuel t cs = some x) :
    ∃ y0 y1 y2 y3 y4 n, x.1 = .agg [y0.1, y1.1, y2.1, y3.1, y4.1] ∧ cs.length = P.cellsOf t ∧ DataW.trod enc P w base spare held n f0.type ((cs.drop f0.offset).take (P.cellsOf f0.type)) = some y0 ∧
      DataW.trod enc P w base spare held n f1.type ((cs.drop f1.offset).take (P.cellsOf f1.type)) = some y1 ∧ DataW.trod enc P w base spare held n f2.type ((cs.drop f2.offset).take (P.cellsOf f2.type)) = some y2 ∧
      DataW.trod enc P w base spare held n f3.type ((cs.drop f3.offset).take (P.cellsOf f3.type)) = some y3 ∧ DataW.trod enc P w base spare held n f4.type ((cs.drop f4.offset).take (P.cellsOf f4.type)) = some y4 := by
  obtain ⟨xs, n, _, rfl, hl, hlen, hf⟩ := DataW.trod_struct ht h
  match xs, hlen with
  | [y0, y1, y2, y3, y4], _ => exact ⟨y0, y1, y2, y3, y4, n, by simp, hl, by simpa using hf 0 f0 rfl, by simpa using hf 1 f1 rfl, by simpa using hf 2 f2 rfl, by simpa using hf 3 f3 rfl, by simpa using hf 4 f4 rfl⟩

theorem open_call {W : World} {base : Nat} {sp : Nat → Bool} {held : Bool} {n : Nat} {cs : List Value} {x : DataW H × List MemPlace} (h : DataW.trod enc Try.prog W base sp held n 67 cs = some x) :
    ∃ c : Cl, cs = c.cells ∧ InRange c.c ∧ c.s.size ∈ x.1.weights Try.prog 67 := by
  obtain ⟨y0, y1, y2, y3, y4, m, hx, hl, h0, h1, h2, h3, h4⟩ := trod_struct5 Try.underlying67 h
  rw [cellsCall] at hl
  obtain ⟨c0, c1, c2, c3, c4, rfl⟩ := five hl
  simp only [cellsInt, cellsStr, List.drop, List.take] at h0 h1 h2 h3 h4
  obtain ⟨n0, e0, _, b0⟩ := DataW.trod_int Try.underlying3 h0
  obtain ⟨n1, e1, _, b1⟩ := DataW.trod_int Try.underlying3 h1
  obtain ⟨n2, e2, _, b2⟩ := DataW.trod_int Try.underlying3 h2
  obtain ⟨n3, e3, _, b3⟩ := DataW.trod_int Try.underlying3 h3
  obtain ⟨s, e4, e5, _⟩ := DataW.trod_string Try.underlying9 h4
  simp only [List.cons.injEq, and_true] at e0 e1 e2 e3 e4
  subst e0 e1 e2 e3 e4 e5
  refine ⟨⟨n0, n1, n2, n3, s⟩, rfl, bounds_i64 b3, ?_⟩
  have hsz : s.size = s.data.toList.length := by simp
  have hw : (DataW.lit (.string s.data.toList) : DataW H).weights Try.prog 9 = [s.data.toList.length] := by simp only [DataW.weights]
  rw [hx]
  simp only [DataW.weights, Try.underlying67]
  show s.size ∈ y0.1.weights Try.prog 3 ++ (y1.1.weights Try.prog 3 ++ (y2.1.weights Try.prog 3 ++ (y3.1.weights Try.prog 3 ++ ((DataW.lit (.string s.data.toList) : DataW H).weights Try.prog 9 ++ DataW.weightsEach Try.prog [] ([] : List (DataW H))))))
  rw [hw, hsz]
  exact List.mem_append_right _ (List.mem_append_right _ (List.mem_append_right _ (List.mem_append_right _ (List.mem_append_left _ (List.mem_singleton.2 rfl)))))

theorem open_calls {W : World} {ao : Option Addr} {n cap : Nat} {d : DataW H} {p : List MemPlace} (h : DataW.Trod enc Try.prog W 0 (fun _ => true) true 56 (.slice ao n cap) d p) :
    ∃ cs : List Cl, cs.length = n ∧ CallsAt W ao n cs ∧ (∀ c ∈ cs, InRange c.c) ∧ (∀ c ∈ cs, c.s.size ∈ d.weights Try.prog 56) ∧ (d = .nil ∧ n = 0 ∨ ∃ elems spare, d = .slice elems spare ∧ elems.length = n) := by
  obtain ⟨fuel, hf⟩ := h
  rcases open_slice Try.underlying56 hf with ⟨hcs, hx⟩ | ⟨a, len, cp, m, k, D, Pl, hcs, _, hl, hm, hmm, hx, hall⟩
  · simp [Value.cells] at hcs
    obtain ⟨rfl, rfl, rfl⟩ := hcs
    simp only [Prod.mk.injEq] at hx
    exact ⟨[], rfl, fun i hi => absurd hi (Nat.not_lt_zero _), fun s hs => (by cases hs), fun s hs => (by cases hs), .inl ⟨hx.1, rfl⟩⟩
  · simp [Value.cells] at hcs
    obtain ⟨rfl, rfl, rfl⟩ := hcs
    simp only [Prod.mk.injEq] at hx
    simp only [if_true] at hmm
    subst hmm
    rw [cellsCall] at hall
    haveI : Inhabited Cl := ⟨Cl.zero⟩
    obtain ⟨f, hf⟩ := choose_lt (n := n) (p := fun i (c : Cl) => W.cells? 0 (a.add (i * 5)) 5 = some c.cells ∧ InRange c.c ∧ c.s.size ∈ (D i).weights Try.prog 67) (fun i hi => by
      obtain ⟨cs', h1, h2⟩ := hall i (Nat.lt_of_lt_of_le hi hl)
      obtain ⟨s, rfl, hs⟩ := open_call h2
      exact ⟨s, h1, hs⟩)
    refine ⟨(List.range n).map f, by simp, fun i hi => ?_, fun s hs => ?_, fun s hs => ?_, .inr ⟨_, _, hx.1, by simp⟩⟩
    · obtain ⟨_, _, hc⟩ := World.cells?_some (hf i hi).1
      obtain ⟨b, off, spot⟩ := a
      have hg : ((List.range n).map f).getD i Cl.zero = f i := by simp [List.getD, hi]
      rw [hg]
      have c0 := hc 0 (by decide)
      have c1 := hc 1 (by decide)
      have c2 := hc 2 (by decide)
      have c3 := hc 3 (by decide)
      have c4 := hc 4 (by decide)
      simp only [Cl.cells, List.getElem?_cons_zero, List.getElem?_cons_succ] at c0 c1 c2 c3 c4
      have hspot : spot = none := by
        have h0 := (World.cells?_some (hf 0 (by omega)).1).2.2 0 (by decide)
        simp only [Cl.cells, List.getElem?_cons_zero] at h0
        simpa [Addr.add] using World.cell?_spot h0
      subst hspot
      simp only [Addr.add_lit, Nat.add_zero] at c0 c1 c2 c3 c4
      exact ⟨b, off, rfl, cell_lt c0, c0, c1, c2, c3, c4⟩
    · obtain ⟨i, hi, rfl⟩ := List.mem_map.1 hs
      exact (hf i (List.mem_range.1 hi)).2.1
    · obtain ⟨i, hi, rfl⟩ := List.mem_map.1 hs
      rw [hx.1]
      simp only [DataW.weights, Try.underlying56]
      exact List.mem_cons_of_mem _ (List.mem_append_left _ (weightsAll_mem (List.mem_map.2 ⟨i, hi, rfl⟩) (hf i (List.mem_range.1 hi)).2.2))

end
end Go.Proofs.Ytklicjbpjigfdab
