/- DERIVED. The walk of tree: the first steps of a script that leave alone what came into another, and use at most six coins. -/
import Derived.Test.YtklicjbpjigfdaaMk
import Derived.Test.YtklicjbpjigfdaaMj
import Derived.Deep.AppendLies
import Derived.Deep.Cut
import Derived.Deep.CutRange
import Derived.BigRegion
import Derived.BigQuiet
namespace Go.Proofs.Ytklicjbpjigfdaa
open Go.RowKit
variable {K : Nat → Prop} {w0 : World}

theorem Keeps.over {K K' : Nat → Prop} {w0 w2 w' : World} (hk : Keeps K w0 w2) (h : Keeps K' w2 w') (hs : ∀ b, K b → K' b) : Keeps K w0 w' :=
  ⟨h.os.trans hk.os, h.tape.trans hk.tape, h.output.trans hk.output, Nat.le_trans hk.size h.size, fun b e => (h.block b (hs b e)).trans (hk.block b e)⟩
theorem WdSt.setGone {w : World} {p d m i : Nat} {W : Wd} {ps : Nat → Nat} (h : WdSt K w0 w p d m ps W) (hi : i < m) : WdSt K w0 (w.setCell ⟨ps i, 5, none⟩ (.bool true)) p d m ps (W.side i { W.sd i with gone := true }) := by
  obtain ⟨own, vs, vx, vw, h, h2K, hk⟩ := h
  have hs := h.side i hi
  have hf : Fr (fun b => own b = 2 + i) w (w.setCell ⟨ps i, 5, none⟩ (.bool true)) := (Fr.refl _ w).set (fun _ => hs.gp) _
  have hkI : IntsKept w (w.setCell ⟨ps i, 5, none⟩ (.bool true)) := IntsKept.set hs.blk (by decide)
  refine h.sideStep hi (vx' := vx i) (vw' := vw i) ⟨?_, ⟨.inl hs.gp, by rw [setCell_size]; exact lt_of_blk' hs.blk⟩, hs.ix.kept hkI, hs.iw.kept hkI, fun b e => ⟨.inl (hs.gx b e), by rw [setCell_size]; exact ownsRow_lt hs.ix e⟩, fun b e => ⟨.inl (hs.gw b e), by rw [setCell_size]; exact ownsRow_lt hs.iw e⟩, hs.ne, hs.len⟩ hf h2K hk
  have := blk_set (i := 5) (.bool true) hs.blk
  simpa using this
theorem WdSt.setMost {w : World} {p d m : Nat} {ps : Nat → Nat} {W : Wd} (h : WdSt K w0 w p d m ps W) (a : Int) : WdSt K w0 (w.setCell ⟨p, 5, none⟩ (.int .i64 a)) p d m ps { W with most := a } := by
  obtain ⟨own, vs, vx, vw, h, h2K, hk⟩ := h
  refine h.own (by rw [setCell_size]) (fun b hb => Below.heap_setCell _ _ _ _ hb) ?_ rfl rfl h2K hk rfl rfl rfl
  have := blk_set (i := 5) (.int .i64 a) h.blk
  simpa using this

theorem WdSt.grew {K2 : Nat → Prop} {w w2 : World} {row : Option Nat} {p d m : Nat} {ps : Nat → Nat} {W : Wd} (h : WdSt K w0 w p d m ps W) (hg : w.grownBy w2 row) (hr : ∀ b, some b = row → K b) (hK2 : ∀ b, K2 b → (K b ∨ w.heap.size ≤ b) ∧ b < w2.heap.size) : WdSt K2 w2 w2 p d m ps W := by
  obtain ⟨own, vs, vx, vw, h, h2, h3⟩ := h
  refine ⟨own, vs, vx, vw, h.keep hg.size (fun b e => hg.block b (h.lt b e) (fun e2 => e (h2 b (hr b e2)).1)), fun b e => ⟨?_, (hK2 b e).2⟩, Keeps.refl _ _⟩
  rcases (hK2 b e).1 with e1 | e1
  · exact (h2 b e1).1
  · exact Decidable.byContradiction fun hn => by have := h.lt b hn; omega

/-- Who is gone behind the steps. -/
def goneBy : (Nat → Bool) → List St → Nat → Bool
  | G, [] => G
  | G, s :: l => goneBy (if s.kd = 1 then (fun j => if j = pickN s.b 3 then true else G j) else G) l
theorem goneBy_snoc : ∀ (l : List St) (G : Nat → Bool) (s : St), goneBy G (l ++ [s]) = if s.kd = 1 then (fun j => if j = pickN s.b 3 then true else goneBy G l j) else goneBy G l
  | [], G, s => by simp only [List.nil_append, goneBy]
  | a :: l, G, s => by rw [List.cons_append, goneBy, goneBy_snoc l, goneBy]
theorem goodG_snoc : ∀ (l : List St) (G : Nat → Bool) (s : St), GoodG G l → goneBy G l (pickN s.a 3) = false → (s.kd = 1 → pickN s.a 3 ≠ pickN s.b 3 ∧ goneBy G l (pickN s.b 3) = false) → GoodG G (l ++ [s])
  | [], _, _, _, h1, h2 => ⟨h1, h2, trivial⟩
  | _ :: l, _, s, ⟨g1, g2, g3⟩, h1, h2 => ⟨g1, g2, goodG_snoc l _ s g3 h1 h2⟩

/-- What is known of the steps taken so far. -/
structure TreeSt (k : Int) (ls : List St) (W : Wd) : Prop where
  ok : SixOk W
  short : W.short = false
  noCoins : W.coins = ByteArray.empty
  run : ∃ c, RunC ls c (Wd.first k ByteArray.empty 3).bare W.bare ∧ c.length = W.used
  good : GoodG (fun _ => false) ls
  gone : ∀ i, i < 3 → (W.sd i).gone = goneBy (fun _ => false) ls i
theorem side_bare (W : Wd) (i : Nat) : (W.side i { W.sd i with gone := true }).bare = W.bare := by
  unfold Wd.bare Wd.side
  simp only [Wd.mk.injEq, and_true, true_and]
  funext j
  by_cases e : j = i
  · simp only [if_pos e]; rw [e]; rfl
  · simp only [if_neg e]

theorem ats_empty (a : Nat) : ∀ n, ats ByteArray.empty a n = a
  | 0 => rfl
  | n + 1 => by rw [ats, ats_empty a n]; rfl
theorem all_gone (s t : Sd) : (s.all t).gone = s.gone := (putN_rest s t.xs t.ws t.xs.length).2.2
theorem stepR_keeps {kd a b c : Int} {W W' : Wd} (h : StepR kd a b c W W') : (∀ i, (W'.sd i).gone = (W.sd i).gone) ∧ W'.short = W.short ∧ W'.most = W.most ∧ W'.coins = W.coins := by
  rcases h with ⟨_, h⟩ | ⟨_, h⟩
  · rcases h with ⟨_, rfl⟩ | ⟨_, cs, L', a', _, _, _, rfl⟩
    · exact ⟨fun _ => rfl, rfl, rfl, rfl⟩
    · refine ⟨fun i => ?_, rfl, rfl, rfl⟩
      show (if i = pickN a 3 then (W.sd (pickN a 3)).all (W.sd (pickN b 3)) else W.sd i).gone = _
      by_cases e : i = pickN a 3
      · rw [if_pos e, all_gone, e]
      · rw [if_neg e]
  · rcases h with ⟨_, rfl⟩ | ⟨_, cs, L', a', _, _, _, rfl⟩
    · exact ⟨fun _ => rfl, rfl, rfl, rfl⟩
    · refine ⟨fun i => ?_, rfl, rfl, rfl⟩
      show (if i = pickN a 3 then (W.sd (pickN a 3)).took b (weightN c) else W.sd i).gone = _
      by_cases e : i = pickN a 3
      · rw [if_pos e, e]; rfl
      · rw [if_neg e]
theorem TreeSt.step {k : Int} {ls : List St} {s : St} {W W' : Wd} (h : TreeSt k ls W) (hs : StepR s.kd s.a s.b s.c W W') (hu : W'.used ≤ 6) (ha : (W.sd (pickN s.a 3)).gone = false) (hb : s.kd = 1 → pickN s.a 3 ≠ pickN s.b 3 ∧ (W.sd (pickN s.b 3)).gone = false) :
    (s.kd ≠ 1 → TreeSt k (ls ++ [s]) W') ∧ (s.kd = 1 → TreeSt k (ls ++ [s]) (W'.side (pickN s.b 3) { W'.sd (pickN s.b 3) with gone := true })) := by
  have hpa : pickN s.a 3 < 3 := pickN_lt _ (by omega)
  have hpb : pickN s.b 3 < 3 := pickN_lt _ (by omega)
  obtain ⟨cs, h1, h2, h3, h4, h5⟩ := hs.bare
  obtain ⟨g1, g2, g3, g4⟩ := stepR_keeps hs
  obtain ⟨c0, r1, r2⟩ := h.run
  have hinv := h1.inv h.ok.inv
  have hat : W'.at_ ≤ 140737488355328 := by rw [h3, h.noCoins, ats_empty]; exact h.ok.at_
  have hrun : RunC (ls ++ [s]) (c0 ++ cs) (Wd.first k ByteArray.empty 3).bare W'.bare := r1.snoc h1
  have hgood : GoodG (fun _ => false) (ls ++ [s]) := goodG_snoc ls _ s h.good (by rw [← h.gone _ hpa]; exact ha) (fun e => ⟨(hb e).1, by rw [← h.gone _ hpb]; exact (hb e).2⟩)
  have hok : SixOk W' := ⟨hinv, hat, by rw [g4]; exact h.ok.coins, by rw [g3]; exact h.ok.most, hu⟩
  constructor
  · intro hk
    refine ⟨hok, by rw [g2]; exact h.short, by rw [g4]; exact h.noCoins, ⟨_, hrun, by rw [List.length_append, r2, h5]⟩, hgood, fun i hi => ?_⟩
    rw [goneBy_snoc, if_neg hk, g1]; exact h.gone i hi
  · intro hk
    refine ⟨⟨by rw [side_bare]; exact hinv, hat, by show W'.coins.size ≤ _; rw [g4]; exact h.ok.coins, by show W'.most = 6; rw [g3]; exact h.ok.most, hu⟩, by show W'.short = false; rw [g2]; exact h.short, by show W'.coins = _; rw [g4]; exact h.noCoins, ⟨_, by rw [side_bare]; exact hrun, by rw [List.length_append, r2]; show W.used + cs.length = W'.used; rw [h5]⟩, hgood, fun i hi => ?_⟩
    rw [goneBy_snoc, if_pos hk]
    show (if i = pickN s.b 3 then { W'.sd (pickN s.b 3) with gone := true } else W'.sd i).gone = _
    by_cases e : i = pickN s.b 3
    · rw [if_pos e, if_pos e]
    · rw [if_neg e, if_neg e, g1]; exact h.gone i hi
theorem Came.toHere {h : Hd} {s : Sd} (c : Came h s) : Came h s.here := ⟨⟨c.inok.ok, c.inok.n, c.inok.set, c.inok.xl, c.inok.wl⟩, c.k, c.len, c.sum, c.lvok, c.tn, c.ends, c.pos⟩
theorem MInv.toBare {W : Wd} (h : MInv W) : MInv W.bare := ⟨h.len, h.tape, Nat.zero_le _, Nat.zero_le _, rfl, h.used, fun i hi => (h.came i hi).toHere, h.roomy, h.tall, h.near, h.uns⟩
theorem tree_first (k : Int) : TreeSt k [] { Wd.first k ByteArray.empty 3 with most := 6 } := by
  have h1 := first_minv k ByteArray.empty (by decide)
  have hb : ({ Wd.first k ByteArray.empty 3 with most := 6 } : Wd).bare = (Wd.first k ByteArray.empty 3).bare := rfl
  refine ⟨⟨by rw [hb]; exact h1.toBare, Nat.zero_le _, Nat.zero_le _, rfl, Nat.zero_le _⟩, rfl, rfl, ⟨[], ⟨rfl, hb⟩, rfl⟩, trivial, fun i hi => ?_⟩
  have : i = 0 ∨ i = 1 ∨ i = 2 := by omega
  rcases this with rfl | rfl | rfl <;> rfl

set_option maxHeartbeats 4000000 in
set_option maxRecDepth 100000 in
theorem tree_any (k : Int) (ao : Option Addr) (n cap : Nat) (ss : List St) (w : World) (hk1 : -9223372036854775808 ≤ k) (hk2 : k ≤ 9223372036854775807) (hl : ss.length = n) (hr : n * 32 ≤ 140737488351232) (hrg : ∀ s ∈ ss, InRange s.a ∧ InRange s.b ∧ InRange s.c) (hc : StepsAt w ao n ss) :
    Calls Try.prog 22 #[.int .i64 k, .slice ao n cap] w fun e w' => ∃ (ls : List St) (a' : Option Addr) (c' m : Nat) (V : Wd), e = .returned (.tuple #[.slice a' ls.length c', .int .i64 (m : Int), .bool true]) ∧ w'.ownsRow w.heap.size 29 4 (.slice a' ls.length c') ls.length (stCells ls) ∧ Below w.heap.size w w' ∧ ls.length ≤ n ∧ (∀ s ∈ ls, InRange s.a ∧ InRange s.b ∧ InRange s.c) ∧ m ≤ 6 ∧ GoodG (fun _ => false) ls ∧ ∃ c, RunC ls c (Wd.first k ByteArray.empty 3).bare V ∧ c.length = m := by
  have HB := hid (begin_w k ByteArray.empty w hk1 hk2)
  have HC := hid hc
  have HRG := hid hrg
  have HL := hid hl
  obtain ⟨i0, hi0, hz0, hz1, hz2⟩ := info_parts Try.infoStep
  clear hc hrg hl
  go_enter Try.func22, Try.ntmps22
  go_wp2_with fail
  refine HB.out.mono ?_
  rintro e w1 ⟨p, d, ps, rfl, hst1⟩
  have hst2 := hst1.setMost 6
  have HST2 := hid hst2
  obtain ⟨own, vs, vx, vw, hA, _⟩ := hst1
  obtain ⟨c0, c1, c2, c3, c4, c5, c6, cz⟩ := blk7 hA.blk
  clear hst2 hA HB
  go_wp2_with fail
  generalize hwm : w1.setCell ⟨p, 5, none⟩ (.int .i64 6) = wm at *
  clear hwm c0 c1 c2 c3 c4 c5 c6 cz
  go_loopw [7, 9] (fun sl si wr => ∃ (i c' : Nat) (a' : Option Addr) (ls : List St) (W : Wd), i ≤ n ∧ ls.length ≤ i ∧ si = .int .i64 i ∧ sl = .slice a' ls.length c' ∧ Hid (wr.ownsRow w.heap.size 29 4 (.slice a' ls.length c') ls.length (stCells ls)) ∧ Hid (∀ s ∈ ls, InRange s.a ∧ InRange s.b ∧ InRange s.c) ∧ Hid (TreeSt k ls W) ∧ Hid (WdSt (fun b => b < w.heap.size ∨ Value.ownBlock (.slice a' ls.length c') = some b) wr wr p d 3 ps W) ∧ Hid (Keeps (fun b => b < w.heap.size) w wr)) (fun _ si _ => n - (intOf si).toNat)
  case atStart =>
    refine ⟨0, 0, none, [], _, Nat.zero_le _, Nat.le_refl _, rfl, rfl, World.ownsRow_nil _ _ _ _, fun s hs => by simp at hs, tree_first k, ?_, HST2.out.keeps⟩
    exact HST2.out.again (Below.refl _ _) (fun b e => by rcases e with e | e; exact .inl ⟨e, e⟩; simp [Value.ownBlock] at e)
  case round =>
    obtain ⟨i, c', a', ls, W, hi, hli, rfl, rfl, Ho, Hrl, Htr, Hst, Hke⟩ := hrel
    clear HST2
    by_cases hil : i < n
    · have hil' : i < ss.length := by rw [HL.out]; exact hil
      obtain ⟨bs, off, rfl, hbz, q0, q1, q2, q3⟩ := HC.out i hil
      have hbk : ∀ o, wr.cell? ⟨bs, o, none⟩ = w.cell? ⟨bs, o, none⟩ := fun o => World.cell?_of_block (Hke.out.block bs hbz)
      rw [← hbk] at q0 q1 q2 q3
      have hmem : ss.getD i St.zero ∈ ss := by simp [List.getD, hil']
      have hg := HRG.out _ hmem
      generalize ss.getD i St.zero = st at *
      have hbz2 : bs < wr.heap.size := Nat.lt_of_lt_of_le hbz Hke.out.size
      have hbA : Below wr.heap.size wr (wr.alloc (.cells #[.int .i64 st.kd, .int .i64 st.a, .int .i64 st.b, .int .i64 st.c] 29)) := (Below.refl _ _).alloc (Nat.le_refl _) _
      have hX1 : (wr.alloc (.cells #[.int .i64 st.kd, .int .i64 st.a, .int .i64 st.b, .int .i64 st.c] 29)).heap[wr.heap.size]? = some (.cells #[.int .i64 st.kd, .int .i64 st.a, .int .i64 st.b, .int .i64 st.c] 29) := heap_alloc_new _ _
      have hS1 : WdSt (fun b => (b < w.heap.size ∨ Value.ownBlock (.slice a' ls.length c') = some b) ∨ b = wr.heap.size) (wr.alloc (.cells #[.int .i64 st.kd, .int .i64 st.a, .int .i64 st.b, .int .i64 st.c] 29)) (wr.alloc (.cells #[.int .i64 st.kd, .int .i64 st.a, .int .i64 st.b, .int .i64 st.c] 29)) p d 3 ps W := Hst.out.again hbA (fun b e => by
        rcases e with (e | e) | rfl
        · exact .inl ⟨.inl e, Nat.lt_of_lt_of_le e Hke.out.size⟩
        · exact .inl ⟨.inr e, (Ho.out.lt b e).2⟩
        · exact .inr ⟨Nat.le_refl _, by simp⟩)
      have hS0 : WdSt (fun b => b < w.heap.size ∨ Value.ownBlock (.slice a' ls.length c') = some b) (wr.alloc (.cells #[.int .i64 st.kd, .int .i64 st.a, .int .i64 st.b, .int .i64 st.c] 29)) (wr.alloc (.cells #[.int .i64 st.kd, .int .i64 st.a, .int .i64 st.b, .int .i64 st.c] 29)) p d 3 ps W := Hst.out.again hbA (fun b e => by
        rcases e with e | e
        · exact .inl ⟨.inl e, Nat.lt_of_lt_of_le e Hke.out.size⟩
        · exact .inl ⟨.inr e, (Ho.out.lt b e).2⟩)
      have hO1 := ownsRow_below Ho.out hbA (fun g e => ownsRow_lt Ho.out e)
      have hK1 : Keeps (fun b => b < w.heap.size) w (wr.alloc (.cells #[.int .i64 st.kd, .int .i64 st.a, .int .i64 st.b, .int .i64 st.c] 29)) := Hke.out.below hbA (fun b e => e)
      have hgl : w.heap.size ≤ wr.heap.size := Hke.out.size
      have HP := hid (fun (w' : World) => pick_any st.a 3 w' hg.1.1 hg.1.2 (by omega) (by omega))
      have HP2 := hid (fun (w' : World) => pick_any st.b 3 w' hg.2.1.1 hg.2.1.2 (by omega) (by omega))
      have hpl := pickN_lt st.a (n := 3) (by omega)
      have hpl2 := pickN_lt st.b (n := 3) (by omega)
      have HS6 := hid (step6_any p d st.kd st.a st.b st.c ps W _ hS1 Htr.out.ok hg.1 hg.2.1 hg.2.2)
      have HS1 := hid hS1
      have HS0 := hid hS0
      have HO1 := hid hO1
      have HK1 := hid hK1
      have HX1 := hid hX1
      have HGR := hid hg
      have HTS := hid (fun W' => Htr.out.step (s := st) (W' := W'))
      clear hmem hg hbk hbA hX1 hS1 hS0 hO1 hK1
      go_upto_region 10 with fail
      generalize wr.alloc (.cells #[.int .i64 st.kd, .int .i64 st.a, .int .i64 st.b, .int .i64 st.c] 29) = wb at *
      generalize wr.heap.size = lb at *
      obtain ⟨x0, x1, x2, x3, xz⟩ := blk4 HX1.out
      generalize pickN st.a 3 = pa at *
      generalize pickN st.b 3 = pb at *
      obtain ⟨own2, vs2, vx2, vw2, hA2, _⟩ := HS1.out
      obtain ⟨gs, cs0, evs, hpta⟩ := hA2.ptr hpl
      obtain ⟨gs', cs0', evs', hptb⟩ := hA2.ptr hpl2
      rw [evs] at evs'
      cases evs'
      obtain ⟨d0, d1, d2, d3, d4, d5, d6, dz⟩ := blk7 hA2.blk
      rw [evs] at d1
      have ga := (blk6 (hA2.side pa hpl).blk).2.2.2.2.2.1
      have gb := (blk6 (hA2.side pb hpl2).blk).2.2.2.2.2.1
      clear q0 q1 q2 q3 hA2
      go_upto_region 12 with (first | (go_at_call 26; refine (HP.out _).mono ?_; rintro e w' ⟨rfl, hw⟩; obtain rfl := hw.symm; clear HP) | (go_at_call 26; refine (HP2.out _).mono ?_; rintro e w' ⟨rfl, hw⟩; obtain rfl := hw.symm; clear HP2))
      obtain ⟨skip, hskip⟩ : ∃ skip : Bool, skip = ((W.sd pa).gone || (decide (st.kd = 1) && (decide (pa = pb) || (W.sd pb).gone))) := ⟨_, rfl⟩
      have HSK := hid hskip
      clear hskip
      have hs1 : (0 : Int) ≤ (pa : Int) := by omega
      have hs2 : (pa : Int) < 3 := by omega
      have hs3 : (0 : Int) ≤ (pb : Int) := by omega
      have hs4 : (pb : Int) < 3 := by omega
      go_cut [69] from 32 to 100 (fun s69 wc => s69 = .bool skip ∧ wb = wc)
      case first =>
        generalize hgA : (W.sd pa).gone = gA at *
        generalize hgB : (W.sd pb).gone = gB at *
        clear hgA hgB
        cases gA
        · by_cases hkd : st.kd = 1
          · have hkd' : (st.kd == 1) = true := by simp [hkd]
            by_cases hab : pa = pb
            · have hab' : ((pa : Int) == (pb : Int)) = true := by simp; omega
              have HK9 : Hid (skip = true) := by rw [HSK.out]; simp [Hid, hkd, hab]
              clear hkd hab
              go_wp2_with fail
              go_meet
              exact ⟨by rw [HK9.out], rfl⟩
            · have hab' : ((pa : Int) == (pb : Int)) = false := by simp; omega
              have HK9 : Hid (skip = gB) := by rw [HSK.out]; simp [Hid, hkd, hab]
              clear hkd hab
              go_wp2_with fail
              go_meet
              exact ⟨by rw [HK9.out], rfl⟩
          · have hkd' : (st.kd == 1) = false := by simpa using hkd
            have HK9 : Hid (skip = false) := by rw [HSK.out]; simp [Hid, hkd]
            clear hkd
            go_wp2_with fail
            go_meet
            exact ⟨by rw [HK9.out], rfl⟩
        · have HK9 : Hid (skip = true) := by rw [HSK.out]; simp [Hid]
          go_wp2_with fail
          go_meet
          exact ⟨by rw [HK9.out], rfl⟩
      case rest =>
        obtain ⟨rfl, rfl⟩ := hcut
        cases skip
        · have hskf : (W.sd pa).gone = false ∧ (st.kd = 1 → pa ≠ pb ∧ (W.sd pb).gone = false) := by
            have h9 := HSK.out.symm
            simp only [Bool.or_eq_false_iff, Bool.and_eq_false_iff, decide_eq_false_iff_not] at h9
            refine ⟨h9.1, fun hk => ?_⟩
            rcases h9.2 with h8 | h8
            · exact absurd hk h8
            · exact h8
          have HSF := hid hskf
          clear hskf
          go_upto_if 78 with (go_at_call 14; refine HS6.out.mono ?_; rintro e w6 hor; obtain ⟨be, hbe, hres⟩ : ∃ be : Bool, e = .returned (.bool be) ∧ (if be then (∃ W', WdSt (fun b => (b < w.heap.size ∨ Value.ownBlock (.slice a' ls.length c') = some b) ∨ b = lb) wb w6 p d 3 ps W' ∧ StepR st.kd st.a st.b st.c W W' ∧ W'.used ≤ 6) else (∃ W', WdSt (fun b => (b < w.heap.size ∨ Value.ownBlock (.slice a' ls.length c') = some b) ∨ b = lb) wb w6 p d 3 ps W' ∧ W'.short = true)) := by { rcases hor with ⟨W', rfl, h1, h2, h3⟩ | ⟨rfl, hsh⟩; exact ⟨true, rfl, W', h1, h2, h3⟩; exact ⟨false, rfl, hsh⟩ }; subst hbe; have HRES := hid hres; clear hor hres)
          cases be
          · obtain ⟨W6, hst6, hsh6⟩ := HRES.out
            have hk6 := hst6.keeps
            obtain ⟨own6, vs6, vx6, vw6, hA6, _⟩ := hst6
            have e6 := (blk7 hA6.blk).2.2.2.2.2.2.1
            rw [hsh6] at e6
            have HK6 := hid hk6
            clear hA6 hk6 hsh6 HRES
            go_wp2_with fail
            go_quiet (fail)
            go_wp2_with fail
            go_ret3
            have hk7 := HK1.out.over HK6.out (fun b e => .inl (.inl e))
            obtain ⟨c9, r1, r2⟩ := Htr.out.run
            refine ⟨ls, a', c', W.used, W.bare, by simp, ?_, below_drewN ⟨hk7.os, hk7.tape, hk7.output, hk7.size, fun b e => hk7.block b e⟩ _, by omega, Hrl.out, Htr.out.ok.used, Htr.out.good, c9, r1, r2⟩
            exact ownsRow_block HO1.out (fun b e => HK6.out.block b (.inl (.inr e)))
          · obtain ⟨W6, hst6, hrel6, hu6⟩ := HRES.out
            have hk6 := hst6.keeps
            have hX6 := (hk6.block lb (.inr rfl)).trans HX1.out
            have hO6 := ownsRow_block HO1.out (fun b e => hk6.block b (.inl (.inr e)))
            have HTS6 := hid (HTS.out W6 hrel6 hu6 HSF.out.1 HSF.out.2)
            have HS6' := hid hst6
            have hg6 := hst6.setGone hpl2
            have HG6 := hid hg6
            obtain ⟨own6, vs6, vx6, vw6, hA6, _⟩ := hst6
            obtain ⟨gs6, cs6, evs6, hptb6⟩ := hA6.ptr hpl2
            have e1 := (blk7 hA6.blk).2.1
            rw [evs6] at e1
            obtain ⟨b0, b1, b2, b3, b4, b5, bz⟩ := blk6 (hA6.side pb hpl2).blk
            obtain ⟨y0, y1, y2, y3, yz⟩ := blk4 hX6
            clear hA6 hk6 hX6 hO6 hg6 HRES hrel6 x0 x1 x2 x3 xz
            go_upto_if 87 with fail
            go_cut [] from 22 to 100 (fun wc => ∃ W7, TreeSt k (ls ++ [st]) W7 ∧ WdSt (fun b => (b < w.heap.size ∨ Value.ownBlock (.slice a' ls.length c') = some b) ∨ b = lb) wb wc p d 3 ps W7)
            case first =>
              by_cases hkd : st.kd = 1
              · have hkd' : (st.kd == 1) = true := by simp [hkd]
                have HKD := hid hkd
                clear hkd
                go_wp2_with fail
                go_meet
                exact ⟨_, HTS6.out.2 HKD.out, HG6.out⟩
              · have hkd' : (st.kd == 1) = false := by simpa using hkd
                have HKD := hid hkd
                clear hkd
                go_wp2_with fail
                go_meet
                exact ⟨W6, HTS6.out.1 HKD.out, HS6'.out⟩
            case rest =>
              obtain ⟨W7, hts7, hst7⟩ := hcut
              rename World => wc
              have hk7 := hst7.keeps
              have hX7 := (hk7.block lb (.inr rfl)).trans HX1.out
              have hO7 := ownsRow_block HO1.out (fun b e => hk7.block b (.inl (.inr e)))
              have hK7 := HK1.out.over hk7 (fun b e => .inl (.inl e))
              clear y0 y1 y2 y3 yz b0 b1 b2 b3 b4 b5 bz e1 hptb6
              obtain ⟨y0, y1, y2, y3, yz⟩ := blk4 hX7
              have HO7 := hid hO7
              have HK7 := hid hK7
              have HT7 := hid hts7
              have HS7 := hid hst7
              have hsz7 := hK7.size
              clear hk7 hX7 hO7 hK7 hts7 hst7 HTS6 HG6 HS6'
              go_wp2_with (first | (at_builtin; refine wpList_append_lies _ rfl (.tmp 97) (.tmp 99) 22 rfl w.heap.size 29 i0 (.agg #[.int .i64 0, .int .i64 0, .int .i64 0, .int .i64 0]) 4 32 Try.underlying22 hi0 hz0 hz1 hz2 rfl (by decide) (.slice a' ls.length c') ls.length (stCells ls) rfl (HO7.out.alloc _) ⟨wc.heap.size, 0, none⟩ 1 1 [.int .i64 st.kd, .int .i64 st.a, .int .i64 st.b, .int .i64 st.c] rfl rfl (four_new _ _ _ _ _) (by intro u hu; simp at hu; rcases hu with rfl | rfl | rfl | rfl <;> rfl) (by decide) (by unfold maxLen; omega) (by omega) (by simp; omega) (wc.heap.size + 1) (by simp) ?_; intro g2 cap2 w8 hown8 hgrow8 hat8 hlt8; have HO8 := hid hown8; have HG8 := hid hgrow8; have HA8 := hid hat8; clear hown8 hgrow8 hat8))
              go_roundw
              case rel =>
                have hbg : Below w.heap.size wc w8 := ((Below.refl _ _).alloc hsz7 _).grown HG8.out (by simp; omega) (fun k h => (HO7.out.lt _ h).1)
                have ho := HO8.out
                have hst9 : WdSt (fun b => b < w.heap.size ∨ Value.ownBlock (.slice (some ⟨g2, 0, none⟩) (ls ++ [st]).length cap2) = some b) w8 w8 p d 3 ps W7 := by
                  have h1 := HS7.out.below ((Below.refl _ _).alloc (Nat.le_refl _) (.cells #[.int .i64 st.kd, .int .i64 st.a, .int .i64 st.b, .int .i64 st.c] 29))
                  refine h1.grew HG8.out (fun b e => .inl (.inr e.symm)) (fun b e => ?_)
                  rcases e with e | e
                  · exact ⟨.inl (.inl (.inl e)), Nat.lt_of_lt_of_le e (Nat.le_trans hsz7 hbg.size)⟩
                  · have e9 : b = g2 := by simp [Value.ownBlock] at e; exact e.symm
                    subst e9
                    refine ⟨?_, (ho.lt _ rfl).2⟩
                    rcases HA8.out with h | h
                    · exact .inl (.inl (.inr h))
                    · exact .inr (by simp; omega)
                refine ⟨i + 1, cap2, some ⟨g2, 0, none⟩, ls ++ [st], W7, by omega, by simp; omega, by go_num, by simp, ?_, fun s hs => ?_, HT7.out, hst9, ⟨hbg.os.trans HK7.out.os, hbg.tape.trans HK7.out.tape, hbg.output.trans HK7.out.output, Nat.le_trans HK7.out.size hbg.size, fun b e => (hbg.block b e).trans (HK7.out.block b e)⟩⟩
                · rw [stCells_snoc]
                  simpa [Hid, St.cells] using ho
                · rcases List.mem_append.1 hs with h | h
                  · exact Hrl.out s h
                  · have : s = st := by simpa using h
                    subst this
                    exact HGR.out
              case measure => simp [intOf]; omega
        · go_wp2_with fail
          go_roundw
          case rel => exact ⟨i + 1, c', a', ls, W, by omega, by omega, by go_num, rfl, HO1, Hrl, Htr, HS0, HK1⟩
          case measure => simp [intOf]; omega
    · obtain ⟨own6, vs6, vx6, vw6, hA6, _⟩ := Hst.out
      have e4 := (blk7 hA6.blk).2.2.2.2.1
      clear hA6
      go_wp2_with fail
      go_quiet (fail)
      go_wp2_with fail
      go_ret3
      obtain ⟨c9, r1, r2⟩ := Htr.out.run
      have hk7 := Hke.out
      exact ⟨ls, a', c', W.used, W.bare, by simp, Ho.out, below_drewN ⟨hk7.os, hk7.tape, hk7.output, hk7.size, fun b e => hk7.block b e⟩ _, by omega, Hrl.out, Htr.out.ok.used, Htr.out.good, c9, r1, r2⟩

end Go.Proofs.Ytklicjbpjigfdaa

/- DERIVED. The walk of way: one way of the coins is added up. -/
namespace Go.Proofs.Ytklicjbpjigfdaa
open Go.RowKit
variable {K : Nat → Prop} {w0 : World}

abbrev yBlk (O S P : Nat → Int) : Obj := .cells #[.int .i64 (O 0), .int .i64 (O 1), .int .i64 (O 2), .int .i64 (S 0), .int .i64 (S 1), .int .i64 (S 2), .int .i64 (P 0), .int .i64 (P 1), .int .i64 (P 2)] 53 (0, 0)
theorem blk9 {w : World} {r : Nat} {a b c d x y z u v : Value} {e : TypeId} (h : w.heap[r]? = some (.cells #[a, b, c, d, x, y, z, u, v] e (0, 0))) :
    w.cell? ⟨r, 0, none⟩ = some a ∧ w.cell? ⟨r, 1, none⟩ = some b ∧ w.cell? ⟨r, 2, none⟩ = some c ∧ w.cell? ⟨r, 3, none⟩ = some d ∧ w.cell? ⟨r, 4, none⟩ = some x ∧ w.cell? ⟨r, 5, none⟩ = some y ∧ w.cell? ⟨r, 6, none⟩ = some z ∧ w.cell? ⟨r, 7, none⟩ = some u ∧ w.cell? ⟨r, 8, none⟩ = some v ∧ (∀ o, w.frozen? ⟨r, o, none⟩ = false) := by
  refine ⟨?_, ?_, ?_, ?_, ?_, ?_, ?_, ?_, ?_, fun o => ?_⟩ <;> simp [World.cell?, World.frozen?, h]
theorem fr_drew2 {S : Nat → Prop} {w w' : World} (h : Fr S w w') : Fr S w w'.drew.drew := ⟨h.os, h.tape, h.output, h.size, h.block⟩
theorem mid_bd {q : Int} {W : Wd} {i : Nat} (hm : MInv W) (hi : i < 3) : -268435456 ≤ Dv q W i ∧ Dv q W i ≤ 268435456 := by
  have hc := hm.came i hi
  have h1 := usum_le q (W.D.sks.getD i Hd.none).sk.lv
  have h2 := wFilter_le (fun x => decide (x ≤ q)) (W.sd i).xs (W.sd i).ws
  have h3 := hc.inok.ok.cnt
  have h4 := hc.inok.n
  have h5 := hc.sum
  unfold Dv
  omega

set_option maxHeartbeats 4000000 in
set_option maxRecDepth 100000 in
theorem way_any (p d yb : Nat) (q : Int) (fst : Bool) (ps : Nat → Nat) (W : Wd) (O S P : Nat → Int) (w : World) (h : WdSt K w0 w p d 3 ps W) (hK : K yb) (hm : MInv W) (hy : w.heap[yb]? = some (yBlk O S P)) (hO : ∀ i, i < 3 → -17179869184 ≤ O i ∧ O i ≤ 17179869184) (hS : ∀ i, i < 3 → 0 ≤ S i ∧ S i ≤ 4611686018427387904) (hP : fst = false → ∀ i, i < 3 → P i = Sv W i) :
    Calls Try.prog 25 #[.pointer (some ⟨yb, 0, none⟩), .pointer (some ⟨p, 0, none⟩), .int .i64 q, .bool fst] w fun e w' => e = .returned (.bool true) ∧ Fr (fun b => b = yb) w w' ∧ w'.heap[yb]? = some (yBlk (fun i => O i + Dv q W i) (fun i => S i + Dv q W i * Dv q W i) (fun i => Sv W i)) := by
  obtain ⟨own, vs, vx, vw, hA, h2K, hk⟩ := h
  have hyo := (h2K yb hK).1
  have hyz := lt_of_blk' hy
  have HWS : Hid (∀ w', Fr (fun b => b = yb) w w' → ∀ w'', Below w'.heap.size w' w'' → WdAt own w'' p d 3 W ps vs vx vw) := fun w' hf w'' hb => (hA.keep hf.size (fun b e => hf.block b (hA.lt b e) (fun e2 => e (by have e3 : b = yb := e2; rw [e3]; exact hyo)))).below hb
  have HM := hid hm
  have HO := hid hO
  have HS := hid hS
  have HP := hid hP
  have HY := hid hy
  clear hA h2K hk hy hm hO hS hP
  go_enter Try.func25, Try.ntmps25
  go_wp2_with fail
  go_loopw [9] (fun si wr => ∃ (i : Nat) (O1 S1 P1 : Nat → Int), i ≤ 3 ∧ si = .int .i64 i ∧ Hid (wr.heap[yb]? = some (yBlk O1 S1 P1)) ∧ Hid (Fr (fun b => b = yb) w wr) ∧ Hid (∀ j, j < 3 → O1 j = (if j < i then O j + Dv q W j else O j) ∧ S1 j = (if j < i then S j + Dv q W j * Dv q W j else S j) ∧ P1 j = (if j < i then Sv W j else P j))) (fun si _ => 3 - (intOf si).toNat)
  case atStart => exact ⟨0, O, S, P, Nat.zero_le _, rfl, HY, Fr.refl _ _, fun j _ => by simp⟩
  case round =>
    obtain ⟨i, O1, S1, P1, hi, rfl, Hy, Hf, Hc⟩ := hrel
    by_cases hi3 : i < 3
    · have hw9 := HWS.out wr Hf.out
      have hyz1 := lt_of_blk' Hy.out
      have HWB : Hid (∀ w'', Below wr.heap.size wr w'' → WdSt (fun b => b = yb) w'' w'' p d 3 ps W) := fun w'' hb => ⟨own, vs, vx, vw, hw9 w'' hb, fun b e => ⟨by have e3 : b = yb := e; rw [e3]; exact hyo, by have e3 : b = yb := e; rw [e3]; exact Nat.lt_of_lt_of_le hyz1 hb.size⟩, Keeps.refl _ _⟩
      have HMI := hid (fun (w'' : World) (hb : Below wr.heap.size wr w'') => mid_any p d i q ps W w'' (HWB.out w'' hb) hi3 HM.out)
      have HOF := hid (fun (w'' : World) (hb : Below wr.heap.size wr w'') => off_any p d i ps W w'' (HWB.out w'' hb) hi3 HM.out.len (HM.out.came i hi3) (HM.out.roomy i hi3))
      have HKE := hid (fun (w'' : World) (hb : Below wr.heap.size wr w'') => kept_any p d i ps W w'' (HWB.out w'' hb) hi3 HM.out.len (HM.out.came i hi3))
      have HUP := hid (fun (w'' : World) (hb : Below wr.heap.size wr w'') => upTo_any (ps i) (W.sd i) (vx i) (vw i) q w'' ((hw9 w'' hb).side i hi3) (by have := (HM.out.came i hi3).inok.xl; omega) (by rw [(HM.out.came i hi3).sum, (HM.out.came i hi3).inok.n]; have := (HM.out.came i hi3).inok.ok.cnt; omega))
      have HPT : Hid (∀ w'', Below wr.heap.size wr w'' → ∃ gs cs0, w''.cell? ⟨p, 1, none⟩ = some (.slice (some ⟨gs, 0, none⟩) 3 cs0) ∧ w''.cell? ⟨gs, i, none⟩ = some (.pointer (some ⟨ps i, 0, none⟩))) := fun w'' hb => by
        obtain ⟨gs, cs0, evs, hptr⟩ := (hw9 w'' hb).ptr hi3
        have e1 := (blk7 (hw9 w'' hb).blk).2.1
        rw [evs] at e1
        exact ⟨gs, cs0, e1, hptr⟩
      have hbd := mid_bd (q := q) HM.out hi3
      have hOb := HO.out i hi3
      have hSb := HS.out i hi3
      have hss := ssum_small (HM.out.came i hi3) (HM.out.roomy i hi3)
      have hub := usum_le q (W.D.sks.getD i Hd.none).sk.lv
      have hcn := (HM.out.came i hi3).inok.ok.cnt
      have hle := wFilter_le (fun x => decide (x ≤ q)) (W.sd i).xs (W.sd i).ws
      rw [(HM.out.came i hi3).sum, (HM.out.came i hi3).inok.n] at hle
      have hDv : Dv q W i = (usum q (W.D.sks.getD i Hd.none).sk.lv : Int) - (wFilter (fun x => decide (x ≤ q)) (W.sd i).xs (W.sd i).ws : Int) := rfl
      have hSv : Sv W i = (ssum (W.D.sks.getD i Hd.none).sk.lv : Int) := rfl
      have hci := Hc.out i hi3
      simp only [Nat.lt_irrefl, if_false] at hci
      have HPI : Hid (fst = false → P1 i = (ssum (W.D.sks.getD i Hd.none).sk.lv : Int)) := fun hf => by rw [hci.2.2, HP.out hf i hi3, hSv]
      have HDV := hid hDv
      have HSV := hid hSv
      generalize usum q (W.D.sks.getD i Hd.none).sk.lv = us at *
      generalize wFilter (fun x => decide (x ≤ q)) (W.sd i).xs (W.sd i).ws = rr at *
      generalize ssum (W.D.sks.getD i Hd.none).sk.lv = sv at *
      generalize esum (W.D.sks.getD i Hd.none).sk.lv = ev at *
      obtain ⟨o1, o2, o3, o4, o5, o6, o7, o8, o9, oz⟩ := blk9 Hy.out
      clear hw9 HWS
      go_wp2_with fail
      refine (HMI.out _ (Below.refl _ _)).mono ?_
      rintro e w1 ⟨rfl, hb1⟩
      have HB1 := hid hb1
      clear hb1 HMI
      go_wp2_with fail
      refine (HOF.out _ HB1.out).mono ?_
      rintro e w2 ⟨rfl, hb2⟩
      have HB2 : Hid (Below wr.heap.size wr w2) := HB1.out.trans (hb2.mono HB1.out.size)
      clear hb2 HOF HB1
      go_wp2_with fail
      refine (HKE.out _ HB2.out).mono ?_
      rintro e w3 ⟨rfl, hb3⟩
      have hb4 : Below wr.heap.size wr w3 := HB2.out.trans (hb3.mono HB2.out.size)
      have hy3 := (hb4.block yb hyz1).trans Hy.out
      have HB4 := hid hb4
      have HY3 := hid hy3
      clear hb3 HKE HB2 o1 o2 o3 o4 o5 o6 o7 o8 o9 oz
      obtain ⟨o1, o2, o3, o4, o5, o6, o7, o8, o9, oz⟩ := blk9 hy3
      obtain ⟨gs, cs0, g1, g2⟩ := HPT.out w3 hb4
      have hgz : gs < w3.heap.size := World.block_lt_of_cell? _ _ g2
      have hyz3 := lt_of_blk' hy3
      have HU3 := hid (HUP.out w3 hb4)
      clear hb4 hy3 HPT HUP
      have hD1 : (us : Int) - (rr : Int) ≤ 268435456 := by omega
      have hD2 : -268435456 ≤ (us : Int) - (rr : Int) := by omega
      have hDD1 : ((us : Int) - (rr : Int)) * ((us : Int) - (rr : Int)) ≤ 72057594037927936 := by
        have h1 : 0 ≤ (268435456 - ((us : Int) - (rr : Int))) * (268435456 + ((us : Int) - (rr : Int))) := Int.mul_nonneg (by omega) (by omega)
        generalize (us : Int) - (rr : Int) = D at *
        have : (268435456 - D) * (268435456 + D) = 72057594037927936 - D * D := by grind
        omega
      have hDD0 : 0 ≤ ((us : Int) - (rr : Int)) * ((us : Int) - (rr : Int)) := by
        generalize (us : Int) - (rr : Int) = D at *
        rcases Int.le_total 0 D with h | h
        · exact Int.mul_nonneg h h
        · have := Int.mul_nonneg (show 0 ≤ -D by omega) (show 0 ≤ -D by omega)
          rw [Int.neg_mul_neg] at this; exact this
      obtain ⟨hc1, hc2, hc3⟩ := hci
      rw [← hc1] at hOb
      rw [← hc2] at hSb
      have HC1 := hid hc1
      have HC2 := hid hc2
      have hne0 : ((sv : Int) != (sv : Int)) = false := by simp
      have hfin : ∀ (wz : World), wz.heap[yb]? = some (yBlk (fun j => if j = i then O1 i + ((us : Int) - (rr : Int)) else O1 j) (fun j => if j = i then S1 i + ((us : Int) - (rr : Int)) * ((us : Int) - (rr : Int)) else S1 j) (fun j => if j = i then (sv : Int) else P1 j)) → Fr (fun b => b = yb) wr wz → ∃ (k : Nat) (O2 S2 P2 : Nat → Int), k = i + 1 ∧ wz.drew.drew.heap[yb]? = some (yBlk O2 S2 P2) ∧ Fr (fun b => b = yb) w wz.drew.drew ∧ ∀ j, j < 3 → O2 j = (if j < k then O j + Dv q W j else O j) ∧ S2 j = (if j < k then S j + Dv q W j * Dv q W j else S j) ∧ P2 j = (if j < k then Sv W j else P j) := by
        intro wz hz hfz
        refine ⟨i + 1, _, _, _, rfl, (show wz.heap[yb]? = _ from hz), fr_drew2 (Hf.out.trans hfz (fun _ _ h => h)), fun j hj => ?_⟩
        by_cases e : j = i
        · subst e
          simp only [if_true, show j < j + 1 from Nat.lt_succ_self _]
          rw [HC1.out, HC2.out, ← HDV.out, ← HSV.out]
          refine ⟨?_, ?_, ?_⟩ <;> first | rfl | trivial
        · have := Hc.out j hj
          simp only [if_neg e]
          by_cases hlt : j < i
          · simp only [if_pos hlt] at this
            simp only [if_pos (show j < i + 1 by omega)]
            exact this
          · simp only [if_neg hlt] at this
            simp only [if_neg (show ¬ j < i + 1 by omega)]
            exact this
      have HFIN := hid hfin
      have HFR3 : Hid (Fr (fun b => b = yb) wr w3) := Fr.below HB4.out
      clear hfin HDV HSV hDv hSv hc1 hc2 hc3 hbd HB4
      have hcase : i = 0 ∨ i = 1 ∨ i = 2 := by omega
      cases fst
      · have hp0 := HPI.out rfl
        rcases hcase with rfl | rfl | rfl
        · rw [hp0] at o7
          clear hp0 HPI
          go_wp2_with (first | (go_at_call 40; refine HU3.out.mono ?_; rintro e w' ⟨rfl, hw⟩; obtain rfl := hw.symm))
          go_region
          go_wp2_with fail
          go_region
          go_wp2_with fail
          go_roundw
          case rel =>
            have h8 := blk_set (i := 6) (.int .i64 (sv : Int)) (blk_set (i := 3) (.int .i64 (S1 0 + ((us : Int) - (rr : Int)) * ((us : Int) - (rr : Int)))) (blk_set (i := 0) (.int .i64 (O1 0 + ((us : Int) - (rr : Int)))) HY3.out))
            obtain ⟨k, O2, S2, P2, hk, hz, hf, hc⟩ := HFIN.out (((w3.setCell ⟨yb, 0, none⟩ (.int .i64 (O1 0 + ((us : Int) - (rr : Int))))).setCell ⟨yb, 3, none⟩ (.int .i64 (S1 0 + ((us : Int) - (rr : Int)) * ((us : Int) - (rr : Int))))).setCell ⟨yb, 6, none⟩ (.int .i64 (sv : Int))) (by simpa [yBlk] using h8) (((HFR3.out.set (a := ⟨yb, 0, none⟩) (fun _ => rfl) (.int .i64 (O1 0 + ((us : Int) - (rr : Int))))).set (a := ⟨yb, 3, none⟩) (fun _ => rfl) (.int .i64 (S1 0 + ((us : Int) - (rr : Int)) * ((us : Int) - (rr : Int))))).set (a := ⟨yb, 6, none⟩) (fun _ => rfl) (.int .i64 (sv : Int)))
            exact ⟨k, O2, S2, P2, by omega, by rw [hk]; rfl, hz, hf, hc⟩
          case measure => simp [intOf]
        · rw [hp0] at o8
          clear hp0 HPI
          go_wp2_with (first | (go_at_call 40; refine HU3.out.mono ?_; rintro e w' ⟨rfl, hw⟩; obtain rfl := hw.symm))
          go_region
          go_wp2_with fail
          go_region
          go_wp2_with fail
          go_roundw
          case rel =>
            have h8 := blk_set (i := 7) (.int .i64 (sv : Int)) (blk_set (i := 4) (.int .i64 (S1 1 + ((us : Int) - (rr : Int)) * ((us : Int) - (rr : Int)))) (blk_set (i := 1) (.int .i64 (O1 1 + ((us : Int) - (rr : Int)))) HY3.out))
            obtain ⟨k, O2, S2, P2, hk, hz, hf, hc⟩ := HFIN.out (((w3.setCell ⟨yb, 1, none⟩ (.int .i64 (O1 1 + ((us : Int) - (rr : Int))))).setCell ⟨yb, 4, none⟩ (.int .i64 (S1 1 + ((us : Int) - (rr : Int)) * ((us : Int) - (rr : Int))))).setCell ⟨yb, 7, none⟩ (.int .i64 (sv : Int))) (by simpa [yBlk] using h8) (((HFR3.out.set (a := ⟨yb, 1, none⟩) (fun _ => rfl) (.int .i64 (O1 1 + ((us : Int) - (rr : Int))))).set (a := ⟨yb, 4, none⟩) (fun _ => rfl) (.int .i64 (S1 1 + ((us : Int) - (rr : Int)) * ((us : Int) - (rr : Int))))).set (a := ⟨yb, 7, none⟩) (fun _ => rfl) (.int .i64 (sv : Int)))
            exact ⟨k, O2, S2, P2, by omega, by rw [hk]; rfl, hz, hf, hc⟩
          case measure => simp [intOf]
        · rw [hp0] at o9
          clear hp0 HPI
          go_wp2_with (first | (go_at_call 40; refine HU3.out.mono ?_; rintro e w' ⟨rfl, hw⟩; obtain rfl := hw.symm))
          go_region
          go_wp2_with fail
          go_region
          go_wp2_with fail
          go_roundw
          case rel =>
            have h8 := blk_set (i := 8) (.int .i64 (sv : Int)) (blk_set (i := 5) (.int .i64 (S1 2 + ((us : Int) - (rr : Int)) * ((us : Int) - (rr : Int)))) (blk_set (i := 2) (.int .i64 (O1 2 + ((us : Int) - (rr : Int)))) HY3.out))
            obtain ⟨k, O2, S2, P2, hk, hz, hf, hc⟩ := HFIN.out (((w3.setCell ⟨yb, 2, none⟩ (.int .i64 (O1 2 + ((us : Int) - (rr : Int))))).setCell ⟨yb, 5, none⟩ (.int .i64 (S1 2 + ((us : Int) - (rr : Int)) * ((us : Int) - (rr : Int))))).setCell ⟨yb, 8, none⟩ (.int .i64 (sv : Int))) (by simpa [yBlk] using h8) (((HFR3.out.set (a := ⟨yb, 2, none⟩) (fun _ => rfl) (.int .i64 (O1 2 + ((us : Int) - (rr : Int))))).set (a := ⟨yb, 5, none⟩) (fun _ => rfl) (.int .i64 (S1 2 + ((us : Int) - (rr : Int)) * ((us : Int) - (rr : Int))))).set (a := ⟨yb, 8, none⟩) (fun _ => rfl) (.int .i64 (sv : Int)))
            exact ⟨k, O2, S2, P2, by omega, by rw [hk]; rfl, hz, hf, hc⟩
          case measure => simp [intOf]
      · rcases hcase with rfl | rfl | rfl
        · clear HPI
          go_wp2_with (first | (go_at_call 40; refine HU3.out.mono ?_; rintro e w' ⟨rfl, hw⟩; obtain rfl := hw.symm))
          go_region
          go_wp2_with fail
          go_region
          go_wp2_with fail
          go_roundw
          case rel =>
            have h8 := blk_set (i := 6) (.int .i64 (sv : Int)) (blk_set (i := 3) (.int .i64 (S1 0 + ((us : Int) - (rr : Int)) * ((us : Int) - (rr : Int)))) (blk_set (i := 0) (.int .i64 (O1 0 + ((us : Int) - (rr : Int)))) HY3.out))
            obtain ⟨k, O2, S2, P2, hk, hz, hf, hc⟩ := HFIN.out (((w3.setCell ⟨yb, 0, none⟩ (.int .i64 (O1 0 + ((us : Int) - (rr : Int))))).setCell ⟨yb, 3, none⟩ (.int .i64 (S1 0 + ((us : Int) - (rr : Int)) * ((us : Int) - (rr : Int))))).setCell ⟨yb, 6, none⟩ (.int .i64 (sv : Int))) (by simpa [yBlk] using h8) (((HFR3.out.set (a := ⟨yb, 0, none⟩) (fun _ => rfl) (.int .i64 (O1 0 + ((us : Int) - (rr : Int))))).set (a := ⟨yb, 3, none⟩) (fun _ => rfl) (.int .i64 (S1 0 + ((us : Int) - (rr : Int)) * ((us : Int) - (rr : Int))))).set (a := ⟨yb, 6, none⟩) (fun _ => rfl) (.int .i64 (sv : Int)))
            exact ⟨k, O2, S2, P2, by omega, by rw [hk]; rfl, hz, hf, hc⟩
          case measure => simp [intOf]
        · clear HPI
          go_wp2_with (first | (go_at_call 40; refine HU3.out.mono ?_; rintro e w' ⟨rfl, hw⟩; obtain rfl := hw.symm))
          go_region
          go_wp2_with fail
          go_region
          go_wp2_with fail
          go_roundw
          case rel =>
            have h8 := blk_set (i := 7) (.int .i64 (sv : Int)) (blk_set (i := 4) (.int .i64 (S1 1 + ((us : Int) - (rr : Int)) * ((us : Int) - (rr : Int)))) (blk_set (i := 1) (.int .i64 (O1 1 + ((us : Int) - (rr : Int)))) HY3.out))
            obtain ⟨k, O2, S2, P2, hk, hz, hf, hc⟩ := HFIN.out (((w3.setCell ⟨yb, 1, none⟩ (.int .i64 (O1 1 + ((us : Int) - (rr : Int))))).setCell ⟨yb, 4, none⟩ (.int .i64 (S1 1 + ((us : Int) - (rr : Int)) * ((us : Int) - (rr : Int))))).setCell ⟨yb, 7, none⟩ (.int .i64 (sv : Int))) (by simpa [yBlk] using h8) (((HFR3.out.set (a := ⟨yb, 1, none⟩) (fun _ => rfl) (.int .i64 (O1 1 + ((us : Int) - (rr : Int))))).set (a := ⟨yb, 4, none⟩) (fun _ => rfl) (.int .i64 (S1 1 + ((us : Int) - (rr : Int)) * ((us : Int) - (rr : Int))))).set (a := ⟨yb, 7, none⟩) (fun _ => rfl) (.int .i64 (sv : Int)))
            exact ⟨k, O2, S2, P2, by omega, by rw [hk]; rfl, hz, hf, hc⟩
          case measure => simp [intOf]
        · clear HPI
          go_wp2_with (first | (go_at_call 40; refine HU3.out.mono ?_; rintro e w' ⟨rfl, hw⟩; obtain rfl := hw.symm))
          go_region
          go_wp2_with fail
          go_region
          go_wp2_with fail
          go_roundw
          case rel =>
            have h8 := blk_set (i := 8) (.int .i64 (sv : Int)) (blk_set (i := 5) (.int .i64 (S1 2 + ((us : Int) - (rr : Int)) * ((us : Int) - (rr : Int)))) (blk_set (i := 2) (.int .i64 (O1 2 + ((us : Int) - (rr : Int)))) HY3.out))
            obtain ⟨k, O2, S2, P2, hk, hz, hf, hc⟩ := HFIN.out (((w3.setCell ⟨yb, 2, none⟩ (.int .i64 (O1 2 + ((us : Int) - (rr : Int))))).setCell ⟨yb, 5, none⟩ (.int .i64 (S1 2 + ((us : Int) - (rr : Int)) * ((us : Int) - (rr : Int))))).setCell ⟨yb, 8, none⟩ (.int .i64 (sv : Int))) (by simpa [yBlk] using h8) (((HFR3.out.set (a := ⟨yb, 2, none⟩) (fun _ => rfl) (.int .i64 (O1 2 + ((us : Int) - (rr : Int))))).set (a := ⟨yb, 5, none⟩) (fun _ => rfl) (.int .i64 (S1 2 + ((us : Int) - (rr : Int)) * ((us : Int) - (rr : Int))))).set (a := ⟨yb, 8, none⟩) (fun _ => rfl) (.int .i64 (sv : Int)))
            exact ⟨k, O2, S2, P2, by omega, by rw [hk]; rfl, hz, hf, hc⟩
          case measure => simp [intOf]
    · obtain rfl : i = 3 := by omega
      go_wp2_with fail
      go_ret
      refine ⟨rfl, Hf.out, ?_⟩
      have h0 := Hc.out 0 (by omega)
      have h1 := Hc.out 1 (by omega)
      have h2 := Hc.out 2 (by omega)
      simp only [show (0 : Nat) < 3 by omega, show (1 : Nat) < 3 by omega, show (2 : Nat) < 3 by omega, if_true] at h0 h1 h2
      have h9 : wr.heap[yb]? = some (.cells #[.int .i64 (O1 0), .int .i64 (O1 1), .int .i64 (O1 2), .int .i64 (S1 0), .int .i64 (S1 1), .int .i64 (S1 2), .int .i64 (P1 0), .int .i64 (P1 1), .int .i64 (P1 2)] 53 (0, 0)) := Hy.out
      rw [h0.1, h0.2.1, h0.2.2, h1.1, h1.2.1, h1.2.2, h2.1, h2.2.1, h2.2.2] at h9
      exact h9

end Go.Proofs.Ytklicjbpjigfdaa

/- DERIVED. The walk of the statement Spread: it returns true, and nothing that was there has turned. -/
namespace Go.Proofs.Ytklicjbpjigfdaa
open Go.RowKit

/-- The spread is small enough for 64 ways. -/
theorem ssum_half {k : Nat} : ∀ {L : List Lvl}, L ≠ [] → Roomy k L → 2 * ssum L + 2 * wsum L ≤ 2 ^ L.length * wsum L
  | [], h, _ => absurd rfl h
  | [l], _, hr => by
    have h1 := hr.1
    have h2 := capOf_ge k 0
    have h3 : l.times = 0 := by
      have h4 := Nat.mul_le_mul_left l.times h2
      have h5 : l.times * capOf k 0 ≤ 0 := h1
      omega
    simp [ssum, wsum, h3]
  | l :: m :: L, _, hr => by
    have ih := ssum_half (k := k) (L := m :: L) (by simp) hr.2
    have h1 := hr.1
    generalize hM : m :: L = M at *
    have h2 : l.times ≤ wsum M := by
      have := Nat.mul_le_mul_left l.times (capOf_ge k M.length)
      omega
    have hp : 1 ≤ 2 ^ M.length := Nat.pos_of_ne_zero (by have := Nat.pow_pos (n := M.length) (show 0 < 2 by decide); omega)
    have h3 : l.items.length ≤ 2 ^ M.length * l.items.length := Nat.le_mul_of_pos_left _ hp
    rw [List.length_cons, ssum, wsum, Nat.pow_succ]
    generalize 2 ^ M.length = p at *
    have e : p * 2 * (l.items.length + 2 * wsum M) = 2 * (p * l.items.length) + 4 * (p * wsum M) := by grind
    rw [e]
    omega
theorem ssum_sixty {W : Wd} (hm : MInv W) {i : Nat} (hi : i < 3) : 0 ≤ Sv W i ∧ Sv W i ≤ 72057594037927936 := by
  have hc := hm.came i hi
  have h1 := ssum_half (L := (W.D.sks.getD i Hd.none).sk.lv) (by intro e; have := hc.inok.ok.len1; rw [e] at this; simp at this) (hm.roomy i hi)
  have h2 := hc.inok.ok.cnt
  have h3 := hm.tall i hi
  unfold Sv
  refine ⟨by omega, ?_⟩
  rcases h3 with h | h
  · have h4 := hc.inok.ok.len1
    have h5 : (W.D.sks.getD i Hd.none).sk.lv.length = 1 := by omega
    rw [h5] at h1
    omega
  · obtain ⟨n, hn⟩ : ∃ n, (W.D.sks.getD i Hd.none).sk.lv.length = n + 1 := ⟨(W.D.sks.getD i Hd.none).sk.lv.length - 1, by have := hc.inok.ok.len1; omega⟩
    rw [hn] at h1 h
    rw [Nat.add_sub_cancel] at h
    rw [Nat.pow_succ] at h1
    have h6 : 2 ^ n * wsum (W.D.sks.getD i Hd.none).sk.lv ≤ 268435456 * 268435456 := Nat.mul_le_mul (Nat.le_trans h h2) h2
    have e : 2 ^ n * 2 * wsum (W.D.sks.getD i Hd.none).sk.lv = 2 * (2 ^ n * wsum (W.D.sks.getD i Hd.none).sk.lv) := by grind
    rw [e] at h1
    omega

/-- All ways, of a script that tree gave. -/
theorem spread_all {q : Int} {k : Int} {ls : List St} {n : Nat} {c0 : List Bool} {V0 : Wd} (hk : MInv (Wd.first k ByteArray.empty 3).bare) (hg : GoodG (fun _ => false) ls) (hr : RunC ls c0 (Wd.first k ByteArray.empty 3).bare V0) (hn : c0.length = n) :
    ∃ R : List Bool → Wd, (∀ c, c.length = n → RunC ls c (Wd.first k ByteArray.empty 3).bare (R c) ∧ Alike V0 (R c)) ∧ ∀ i, i < 3 → sumC n (fun c => Dv q (R c) i) = 0 ∧ sumC n (fun c => Dv q (R c) i * Dv q (R c) i) ≤ 2 ^ n * Sv V0 i := by
  have hex : ∀ c : List Bool, ∃ V, c.length = n → RunC ls c (Wd.first k ByteArray.empty 3).bare V ∧ Alike V0 V := fun c => by
    by_cases h : c.length = n
    · obtain ⟨V, h1, h2⟩ := runC_all (c' := c) hr (Alike.rfl' _) hk hk (by omega)
      exact ⟨V, fun _ => ⟨h1, h2⟩⟩
    · exact ⟨V0, fun h' => absurd h' h⟩
  refine ⟨fun c => Classical.choose (hex c), fun c hc => Classical.choose_spec (hex c) hc, fun i hi => ?_⟩
  have h := run_sums (q := q) (E := fun i => Sv V0 i) hk hg (fun c hc => (Classical.choose_spec (hex c) hc).1) (fun c hc j hj => by
    unfold Sv
    rw [(sh_sums ((Classical.choose_spec (hex c) hc).2.lv j hj)).2.2.2.1]) i hi
  have hD : ∀ j, j < 3 → Dv q (Wd.first k ByteArray.empty 3).bare j = 0 := fun j hj => by
    have : j = 0 ∨ j = 1 ∨ j = 2 := by omega
    rcases this with rfl | rfl | rfl <;> rfl
  have hS : ∀ j, j < 3 → Sv (Wd.first k ByteArray.empty 3).bare j = 0 := fun j hj => by
    have : j = 0 ∨ j = 1 ∨ j = 2 := by omega
    rcases this with rfl | rfl | rfl <;> rfl
  have l1 : lin (flow ls (Nv (Wd.first k ByteArray.empty 3).bare)) (Dv q (Wd.first k ByteArray.empty 3).bare) i = 0 := by
    unfold lin; rw [hD 0 (by omega), hD 1 (by omega), hD 2 (by omega)]; simp
  have l2 : lin (flow ls (Nv (Wd.first k ByteArray.empty 3).bare)) (Sv (Wd.first k ByteArray.empty 3).bare) i = 0 := by
    unfold lin; rw [hS 0 (by omega), hS 1 (by omega), hS 2 (by omega)]; simp
  rw [l1, l2] at h
  simpa using h

/-- What a list of steps that is owned has in its cells. -/
theorem steps_own {w : World} {B n c' : Nat} {a' : Option Addr} {ls : List St} (h : w.ownsRow B 29 4 (.slice a' n c') n (stCells ls)) (hl : ls.length = n) : StepsAt w a' n ls := by
  intro i hi
  have h' := h
  rcases h.2 with ⟨e, hn⟩ | ⟨g, cap, cur, e, hg, hh, _⟩
  · omega
  · obtain rfl : a' = some ⟨g, 0, none⟩ := by injection e
    refine ⟨g, 0, rfl, ownsRow_lt h' rfl, ?_, ?_, ?_, ?_⟩
    · have := ownsRow_cell h' (j := i * 4 + 0) (by rw [stCells_at ls i 0 (by omega) (by omega)]; rfl); simpa using this
    · have := ownsRow_cell h' (j := i * 4 + 1) (by rw [stCells_at ls i 1 (by omega) (by omega)]; rfl); simpa using this
    · have := ownsRow_cell h' (j := i * 4 + 2) (by rw [stCells_at ls i 2 (by omega) (by omega)]; rfl); simpa using this
    · have := ownsRow_cell h' (j := i * 4 + 3) (by rw [stCells_at ls i 3 (by omega) (by omega)]; rfl); simpa using this

/-- One way of the coins is the run that belongs to it. -/
theorem spread_one {q k : Int} {ls : List St} {n t : Nat} {c0 : List Bool} {V0 W : Wd} {s : ByteArray} {R : List Bool → Wd} (hk : MInv (Wd.first k ByteArray.empty 3).bare) (hr : RunC ls c0 (Wd.first k ByteArray.empty 3).bare V0) (hn : c0.length = n) (hR : ∀ c, c.length = n → RunC ls c (Wd.first k ByteArray.empty 3).bare (R c) ∧ Alike V0 (R c)) (hb : IsBits s (bl t n)) (hp : PlayR ls (Wd.first k s 3) W) :
    W.used = n ∧ ∀ i, i < 3 → Dv q W i = Dv q (R (bl t n)) i ∧ Sv W i = Sv V0 i := by
  obtain ⟨cs, r1, r2, r3⟩ := hp.bare
  have r1' : RunC ls cs (Wd.first k ByteArray.empty 3).bare W.bare := r1
  have hl := (runC_len r1' hr (Alike.rfl' _) hk hk).1
  have h1 := (bits_draw hb cs.length (by rw [bl_length]; omega)).1
  have h2 : cs = bl t n := by
    have h3 : cs = drw s 0 cs.length := r2
    rw [h1, show cs.length = (bl t n).length by rw [bl_length]; omega, List.take_length] at h3
    exact h3
  obtain ⟨g1, g2⟩ := hR (bl t n) (bl_length n t)
  rw [h2] at r1'
  have h4 := runC_det r1' g1
  have h5 : W.used = 0 + cs.length := r3
  refine ⟨by omega, fun i hi => ⟨?_, ?_⟩⟩
  · rw [← h4]; rfl
  · have h6 : Sv W i = Sv W.bare i := rfl
    rw [h6, h4]
    unfold Sv
    rw [(sh_sums (g2.lv i hi)).2.2.2.1]
theorem yBlk_congr {O S P O' S' P' : Nat → Int} (h : ∀ i, i < 3 → O i = O' i ∧ S i = S' i ∧ P i = P' i) : yBlk O S P = yBlk O' S' P' := by
  unfold yBlk
  rw [(h 0 (by omega)).1, (h 1 (by omega)).1, (h 2 (by omega)).1, (h 0 (by omega)).2.1, (h 1 (by omega)).2.1, (h 2 (by omega)).2.1, (h 0 (by omega)).2.2, (h 1 (by omega)).2.2, (h 2 (by omega)).2.2]
theorem sq_bd {D : Int} (h : -268435456 ≤ D ∧ D ≤ 268435456) : 0 ≤ D * D ∧ D * D ≤ 72057594037927936 := by
  constructor
  · rcases Int.le_total 0 D with h | h
    · exact Int.mul_nonneg h h
    · have := Int.mul_nonneg (show 0 ≤ -D by omega) (show 0 ≤ -D by omega)
      rw [Int.neg_mul_neg] at this; exact this
  · have h1 : 0 ≤ (268435456 - D) * (268435456 + D) := Int.mul_nonneg (by omega) (by omega)
    have : (268435456 - D) * (268435456 + D) = 72057594037927936 - D * D := by grind
    omega
theorem fr_drewN {S : Nat → Prop} {w w' : World} (h : Fr S w w') (n : Nat) : Fr S w (w'.drewN n) := ⟨h.os, h.tape, h.output, h.size, h.block⟩
theorem pow_six {m : Nat} (h : m ≤ 6) : 1 ≤ 2 ^ m ∧ 2 ^ m ≤ 64 := ⟨Nat.pow_pos (by decide), Nat.pow_le_pow_right (by decide) h⟩

set_option maxHeartbeats 4000000 in
set_option maxRecDepth 100000 in
theorem spread_walk (k : Int) (ao : Option Addr) (n cap : Nat) (q : Int) (ss : List St) (w : World) (hk1 : -9223372036854775808 ≤ k) (hk2 : k ≤ 9223372036854775807) (hl : ss.length = n) (hr : n * 32 ≤ 140737488351232) (hrg : ∀ s ∈ ss, InRange s.a ∧ InRange s.b ∧ InRange s.c) (hc : StepsAt w ao n ss) :
    Calls Try.prog 8 #[.int .i64 k, .slice ao n cap, .int .i64 q] w fun e w' => e = .returned (.bool true) ∧ Below w.heap.size w w' := by
  have HTR := hid (tree_any k ao n cap ss w hk1 hk2 hl hr hrg hc)
  clear hc hrg
  go_enter Try.func8, Try.ntmps8
  go_wp2_with fail
  refine HTR.out.mono ?_
  rintro e w1 ⟨ls, a', c', m, V0, rfl, hown, hb1, hll, hrl, hm6, hgood, c0, hrun, hc0⟩
  have hkb : MInv (Wd.first k ByteArray.empty 3).bare := (first_minv k ByteArray.empty (by decide)).toBare
  obtain ⟨R, hR, hsum⟩ := spread_all (q := q) hkb hgood hrun hc0
  have HSA := hid (steps_own hown rfl)
  have HON := hid (fun (t : Nat) (s : ByteArray) (W : Wd) (h1 : IsBits s (bl t m)) (h2 : PlayR ls (Wd.first k s 3) W) => spread_one (q := q) hkb hrun hc0 hR h1 h2)
  have HPL := hid (fun (s : ByteArray) (w' : World) (hs : s.size ≤ 140737488355328) (h : StepsAt w' a' ls.length ls) => played_any k s a' ls.length c' ls w' hk1 hk2 hs rfl (by omega) hrl h)
  obtain ⟨A, hA⟩ : ∃ A : Nat, A = 2 ^ m := ⟨_, rfl⟩
  have HPW : Hid (∀ w' : World, Calls Try.prog 23 #[.int .i64 (m : Int)] w' fun e w'' => e = .returned (.int .i64 (A : Int)) ∧ w'' = w') := fun w' => by rw [hA]; exact power_any m w' (by omega)
  have hp6 := pow_six hm6
  rw [← hA] at hp6
  have HSUM : Hid (∀ i, i < 3 → sumT (fun t => Dv q (R (bl t m)) i) A = 0 ∧ sumT (fun t => Dv q (R (bl t m)) i * Dv q (R (bl t m)) i) A ≤ (A : Int) * Sv V0 i) := fun i hi => by
    have h := hsum i hi
    rw [hA, sumT_bits (n := m) (f := fun c => Dv q (R c) i), sumT_bits (n := m) (f := fun c => Dv q (R c) i * Dv q (R c) i)]
    exact ⟨h.1, by have := h.2; simpa using this⟩
  have HB1 := hid hb1
  obtain ⟨hpa, hpb⟩ := hp6
  clear hown hb1 hrl hgood hrun hR hsum HTR hA hkb hc0
  go_wp2_with (first | (go_at_call 23; refine (HPW.out _).mono ?_; rintro e w' ⟨rfl, hw⟩; obtain rfl := hw.symm))
  go_loopw [12] (fun si wr => ∃ (t : Nat) (O S P : Nat → Int), t ≤ A ∧ si = .int .i64 (t : Int) ∧ Hid (wr.heap[w1.heap.size]? = some (yBlk O S P)) ∧ Hid (Fr (fun b => b = w1.heap.size) (w1.alloc (yBlk (fun _ => 0) (fun _ => 0) (fun _ => 0))) wr) ∧ Hid (∀ i, i < 3 → O i = sumT (fun j => Dv q (R (bl j m)) i) t ∧ S i = sumT (fun j => Dv q (R (bl j m)) i * Dv q (R (bl j m)) i) t ∧ (t ≠ 0 → P i = Sv V0 i ∧ 0 ≤ P i ∧ P i ≤ 72057594037927936) ∧ -((t : Int) * 268435456) ≤ O i ∧ O i ≤ (t : Int) * 268435456 ∧ 0 ≤ S i ∧ S i ≤ (t : Int) * 72057594037927936)) (fun si _ => A - (intOf si).toNat)
  case atStart => exact ⟨0, fun _ => 0, fun _ => 0, fun _ => 0, Nat.zero_le _, rfl, heap_alloc_new _ _, Fr.refl _ _, fun i _ => ⟨rfl, rfl, fun h => absurd rfl h, by simp, by simp, by simp, by simp⟩⟩
  case round =>
    obtain ⟨t, O, S, P, ht, rfl, Hy, Hf, Hc⟩ := hrel
    have hsz1 : w1.heap.size < wr.heap.size := lt_of_blk' Hy.out
    have HSR : Hid (StepsAt wr a' ls.length ls) := HSA.out.keep (by omega) (fun b hb => by
      have h1 := Hf.out.block b (by simp; omega) (by omega)
      rw [h1]; exact Below.heap_alloc _ _ _ hb)
    by_cases htA : t < A
    · have HBI := hid (bits_any t m wr hm6 (by omega))
      go_wp2_with fail
      refine HBI.out.mono ?_
      rintro e w3 ⟨s, rfl, hbits, hb3⟩
      have hss : s.size = m := by
        have h9 := congrArg List.length hbits
        rw [List.length_map, bl_length] at h9
        simpa using h9
      have HPL3 := hid (HPL.out s w3 (by omega) (HSR.out.keep hb3.size (fun b hb => hb3.block b hb)))
      have HBT := hid hbits
      have HY3 := hid ((hb3.block _ hsz1).trans Hy.out)
      have HF3 : Hid (Fr (fun b => b = w1.heap.size) (w1.alloc (yBlk (fun _ => 0) (fun _ => 0) (fun _ => 0))) w3) := Hf.out.trans (Fr.below hb3) (fun _ _ h => h)
      have hsz3 := lt_of_blk' HY3.out
      clear hbits hb3 HSR HBI hss
      go_wp2_with fail
      refine HPL3.out.mono ?_
      rintro e w4 ⟨p, d, ps, W, rfl, hst, hmi, hpl⟩
      obtain ⟨hus, hval⟩ := HON.out t s W HBT.out hpl
      have HVAL := hid hval
      have HWY := hid (fun (fst : Bool) (hfs : fst = false → t ≠ 0) => (way_any p d w1.heap.size q fst ps W O S P w4 hst hsz3 hmi ((hst.keeps.block _ hsz3).trans HY3.out) (fun i hi => by have := Hc.out i hi; omega) (fun i hi => by have := Hc.out i hi; omega) (fun e i hi => by rw [((Hc.out i hi).2.2.1 (hfs e)).1, (hval i hi).2])))
      have HKE4 := hid hst.keeps
      have HMI := hid hmi
      have e4 : w4.cell? ⟨p, 4, none⟩ = some (.int .i64 (m : Int)) := by
        obtain ⟨own6, vs6, vx6, vw6, hA6, _⟩ := hst
        have := (blk7 hA6.blk).2.2.2.2.1
        rw [hus] at this
        exact this
      have hne : ((m : Int) != (m : Int)) = false := by simp
      clear hst hmi hpl hval HPL3 HBT hus
      go_wp2_with fail
      refine (HWY.out _ (fun h => by intro e; subst e; simp at h)).mono ?_
      rintro e w5 ⟨rfl, hf5, hy5⟩
      have hk4 := HKE4.out
      have hfk : Fr (fun b => b = w1.heap.size) w3 w4 := ⟨hk4.os, hk4.tape, hk4.output, hk4.size, fun b hb _ => hk4.block b hb⟩
      have HF5 : Hid (Fr (fun b => b = w1.heap.size) (w1.alloc (yBlk (fun _ => 0) (fun _ => 0) (fun _ => 0))) w5) := (HF3.out.trans hfk (fun _ _ h => h)).trans hf5 (fun _ _ h => h)
      have HY5 := hid hy5
      clear hf5 hy5 hk4 hfk HWY HKE4 e4
      go_wp2_with fail
      go_roundw
      case rel =>
        refine ⟨t + 1, _, _, _, by omega, by go_num, HY5, HF5, fun i hi => ?_⟩
        obtain ⟨h1, h2, _, h4, h5, h6, h7⟩ := Hc.out i hi
        obtain ⟨v1, v2⟩ := HVAL.out i hi
        have hbd := mid_bd (q := q) HMI.out hi
        have hsq := sq_bd hbd
        have hs6 := ssum_sixty HMI.out hi
        refine ⟨?_, ?_, fun _ => ⟨v2, hs6⟩, ?_, ?_, ?_, ?_⟩
        · rw [sumT, h1, v1]
        · rw [sumT, h2, v1]
        · simp only [Int.natCast_add, Int.natCast_one]; omega
        · simp only [Int.natCast_add, Int.natCast_one]; omega
        · omega
        · simp only [Int.natCast_add, Int.natCast_one]; omega
      case measure => simp [intOf]; omega
    · have htE : t = A := by omega
      subst htE
      have HFI : Hid (∀ i, i < 3 → O i = 0 ∧ 0 ≤ S i ∧ S i ≤ P i * (t : Int) ∧ P i * (t : Int) ≤ 4611686018427387904) := fun i hi => by
        obtain ⟨h1, h2, h3, _, _, h6, _⟩ := Hc.out i hi
        obtain ⟨s1, s2⟩ := HSUM.out i hi
        obtain ⟨p1, p2, p3⟩ := h3 (by omega)
        refine ⟨h1.trans s1, h6, ?_, ?_⟩
        · rw [p1, h2, Int.mul_comm]; exact s2
        · have h9 := Int.mul_le_mul p3 (show (t : Int) ≤ 64 by omega) (by omega) (by omega)
          omega
      clear HSR HPL HON HPW HSA Hc HSUM
      go_wp2_with fail
      go_loopw [16] (fun si wx => ∃ (i : Nat), i ≤ 3 ∧ si = .int .i64 (i : Int) ∧ Hid (wx.heap[w1.heap.size]? = some (yBlk O S P)) ∧ Hid (Fr (fun b => b = w1.heap.size) (w1.alloc (yBlk (fun _ => 0) (fun _ => 0) (fun _ => 0))) wx)) (fun si _ => 3 - (intOf si).toNat)
      case atStart => exact ⟨0, by omega, rfl, Hy, Hf⟩
      case round =>
        obtain ⟨i, hi, rfl, Hy2, Hf2⟩ := hrel
        by_cases hi3 : i < 3
        · obtain ⟨o1, o2, o3, o4, o5, o6, o7, o8, o9, oz⟩ := blk9 Hy2.out
          have hcase : i = 0 ∨ i = 1 ∨ i = 2 := by omega
          rcases hcase with rfl | rfl | rfl
          · obtain ⟨f1, f2, f3, f4⟩ := HFI.out 0 (by omega)
            have f5 : decide (P 0 * (t : Int) < S 0) = false := decide_eq_false (by omega)
            have f6 : 0 ≤ P 0 * (t : Int) := by omega
            rw [f1] at o1
            go_wp2_with fail
            go_quiet (fail)
            go_wp2_with fail
            go_roundw
            case rel => exact ⟨1, by omega, rfl, Hy2, fr_drewN Hf2.out _⟩
            case measure => simp [intOf]
          · obtain ⟨f1, f2, f3, f4⟩ := HFI.out 1 (by omega)
            have f5 : decide (P 1 * (t : Int) < S 1) = false := decide_eq_false (by omega)
            have f6 : 0 ≤ P 1 * (t : Int) := by omega
            rw [f1] at o2
            go_wp2_with fail
            go_quiet (fail)
            go_wp2_with fail
            go_roundw
            case rel => exact ⟨2, by omega, rfl, Hy2, fr_drewN Hf2.out _⟩
            case measure => simp [intOf]
          · obtain ⟨f1, f2, f3, f4⟩ := HFI.out 2 (by omega)
            have f5 : decide (P 2 * (t : Int) < S 2) = false := decide_eq_false (by omega)
            have f6 : 0 ≤ P 2 * (t : Int) := by omega
            rw [f1] at o3
            go_wp2_with fail
            go_quiet (fail)
            go_wp2_with fail
            go_roundw
            case rel => exact ⟨3, by omega, rfl, Hy2, fr_drewN Hf2.out _⟩
            case measure => simp [intOf]
        · go_wp2_with fail
          go_ret
          have hba := HB1.out.alloc HB1.out.size (yBlk (fun _ => 0) (fun _ => 0) (fun _ => 0))
          have hf9 := Hf2.out
          exact ⟨by simp, ⟨hf9.os.trans hba.os, hf9.tape.trans hba.tape, hf9.output.trans hba.output, Nat.le_trans hba.size hf9.size, fun b hb => (hf9.block b (Nat.lt_of_lt_of_le hb hba.size) (by have := HB1.out.size; omega)).trans (hba.block b hb)⟩⟩

end Go.Proofs.Ytklicjbpjigfdaa
