/- DERIVED. The walk of the statement's own sameInts. -/
import Derived.Test.YtklicjbpjigfdabQ2
import Derived.BigQuiet
import Derived.Deep.DrawnRows
import Derived.Test.YtklicjbpjigfdabQ18
import Derived.Test.YtklicjbpjigfdabQ8
import Derived.Deep.AppendLies
import Derived.Test.YtklicjbpjigfdabQ17
namespace Go.Proofs.Ytklicjbpjigfdab
open Go.RowKit
attribute [local go_sem ↓] Go.wp_at_zero Go.wp_at_succ

set_option maxHeartbeats 1000000 in
set_option maxRecDepth 100000 in
theorem sameInts_any (va vb : Value) (xs : List Int) (w : World) (ha : Ints w va xs) (hb : Ints w vb xs) (hl : xs.length ≤ 1099511627776) :
    Calls Try.prog 38 #[va, vb] w fun e w' => e = .returned (.bool true) ∧ Below w.heap.size w w' := by
  obtain ⟨ao, ca, rfl, _, _, hno, hso⟩ := ha.form
  obtain ⟨bo, cb, rfl, _, _, hno2, hso2⟩ := hb.form
  generalize hn : xs.length = n at *
  have HN := hid hn
  have HNO := hid hno
  have HSO := hid hso
  have HNO2 := hid hno2
  have HSO2 := hid hso2
  have g0 : ((n : Int) != (n : Int)) = false := by simp
  clear hn hno hso hno2 hso2 ha hb
  go_enter Try.func38, Try.ntmps38
  go_wp2_with fail
  go_loopw [5] (fun s wr => ∃ k q : Nat, k ≤ n ∧ s = .int .i64 k ∧ wr = w.drewN q) (fun s _ => n - (intOf s).toNat)
  case atStart => exact ⟨0, 0, Nat.zero_le _, rfl, rfl⟩
  case round =>
    obtain ⟨k, q, hk, rfl, rfl⟩ := hrel
    by_cases hkn : k < n
    · obtain ⟨gc, rfl⟩ : ∃ g, ao = some ⟨g, 0, none⟩ := by
        cases ao with
        | none => have h9 := (HNO.out rfl).1; have h8 := HN.out; rw [h9] at h8; simp at h8; omega
        | some a => obtain ⟨g, rfl, _⟩ := HSO.out a rfl; exact ⟨g, rfl⟩
      obtain ⟨gc', e1, hgc, hcc⟩ := HSO.out _ rfl
      cases e1
      obtain ⟨gd, rfl⟩ : ∃ g, bo = some ⟨g, 0, none⟩ := by
        cases bo with
        | none => have h9 := (HNO2.out rfl).1; have h8 := HN.out; rw [h9] at h8; simp at h8; omega
        | some a => obtain ⟨g, rfl, _⟩ := HSO2.out a rfl; exact ⟨g, rfl⟩
      obtain ⟨gd', e2, hgd, hcd⟩ := HSO2.out _ rfl
      cases e2
      have hcell := hcc k hkn
      have hcell2 := hcd k hkn
      have hs1 : (0 : Int) ≤ (k : Int) := by omega
      have hs2 : (k : Int) < (n : Int) := by omega
      generalize xs.getD k 0 = y at *
      have hy : (y != y) = false := by simp
      clear hcc hcd
      go_wp2_with fail
      go_quiet (fail)
      go_wp2_with fail
      go_roundw
      case rel => exact ⟨k + 1, q + nq, by omega, by go_num, rfl⟩
      case measure => simp [intOf]; omega
    · go_wp2_with fail
      go_ret
      exact ⟨rfl, below_drewN (Below.refl _ _) _⟩

end Go.Proofs.Ytklicjbpjigfdab

/- DERIVED. The walk of the statement's own dump: all that is told of a sketch, as numbers. -/
namespace Go.Proofs.Ytklicjbpjigfdab
open Go.RowKit
variable {K : Nat → Prop} {w0 : World} {nw : Nat}

/-- Numbers appended to a list of the call's own. -/
theorem wpList_append_ints {w : World} {ops : Array Oper} {rest : List Oper} {o : Oper} {a : Act} {Q : Exit → Act → World → Prop} (hgd : o.guard = none) (s x : Operand)
    (ho : o.op = .call { callee := .builtin .append, args := #[s, x], argTypes := #[91, 91] })
    (base g n cap : Nat) (xs : List Int) (hs : a.eval s = .slice (some ⟨g, 0, none⟩) n cap) (hown : w.ownsRow base 3 1 (.slice (some ⟨g, 0, none⟩) n cap) n (ints xs))
    (ad : Addr) (m c : Nat) (ys : List Int) (hx : a.eval x = .slice (some ad) m c) (hl : ys.length = m) (hnews : ∀ j u, (ints ys)[j]? = some u → w.cell? (ad.add j) = some u) (hsm : n + m ≤ 1099511627776) (hbase : base ≤ w.heap.size)
    (h : ∀ g' cap' w', w'.ownsRow base 3 1 (.slice (some ⟨g', 0, none⟩) (n + m) cap') (n + m) (ints (xs ++ ys)) → w.grownBy w' (some g) → wpList Try.prog ops Q rest (a.put o.dst (.slice (some ⟨g', 0, none⟩) (n + m) cap')) w') : wpList Try.prog ops Q (o :: rest) a w := by
  obtain ⟨i0, hi0, hz0, hz1, hz2⟩ := info_parts Try.infoInt
  by_cases hm : 0 < m
  · refine wpList_append_lies w hgd s x 91 ho base 3 i0 (.int .i64 0) 1 8 Try.underlying91 hi0 hz0 hz1 hz2 rfl (by decide) (.slice (some ⟨g, 0, none⟩) n cap) n (ints xs) hs hown ad m c (ints ys) hx (by rw [ints_length, hl]; omega) hnews (ints_one _) hm (by unfold maxLen; omega) (by omega) hbase _ rfl ?_
    intro g' cap' w' h1 h2 _ _
    rw [← ints_append] at h1
    exact h g' cap' w' h1 h2
  · obtain rfl : m = 0 := by omega
    have hc : n ≤ cap := by
      rcases hown.2 with ⟨e, _⟩ | ⟨g', cap', cur, e, _, _, hnc, _⟩
      · cases e
      · cases e; exact hnc
    refine wpList_append_fits w hgd s x 91 ho base 3 i0 1 Try.underlying91 hi0 hz1 g n cap (ints xs) hs hown ad 0 c (ints ys) hx (by rw [ints_length, hl]) hnews (ints_one _) (by omega) ?_
    intro w' h1 h2
    rw [← ints_append] at h1
    exact h g cap w' h1 h2

/-- What the levels are told as. -/
def dumpLv : List Lvl → List Int
  | [] => []
  | l :: L => 0 :: (l.items.length : Int) :: (l.items ++ dumpLv L)
theorem dumpLv_snoc : ∀ (L : List Lvl) (l : Lvl), dumpLv (L ++ [l]) = dumpLv L ++ ([0, (l.items.length : Int)] ++ l.items)
  | [], l => by simp [dumpLv]
  | a :: L, l => by simp [dumpLv, dumpLv_snoc L l]
theorem dumpLv_length : ∀ (L : List Lvl), (dumpLv L).length = 2 * L.length + nsum L
  | [] => rfl
  | l :: L => by simp [dumpLv, nsum, dumpLv_length L]; omega
theorem nsum_app : ∀ (A B : List Lvl), nsum (A ++ B) = nsum A + nsum B
  | [], B => by simp [nsum]
  | a :: A, B => by simp only [List.cons_append, nsum, nsum_app A B]; omega
theorem nsum_take_le : ∀ (L : List Lvl) (j : Nat), nsum (L.take j) ≤ nsum L
  | [], j => by simp
  | l :: L, 0 => by simp [nsum]
  | l :: L, j + 1 => by have := nsum_take_le L j; simp only [List.take_succ_cons, nsum]; omega
/-- What Rank is told as. -/
def rL (q : Int) (s : Sk) : Int := if wsum s.lv = 0 then 0 else rkLow q s.lv s.lo s.hi
def rM (q : Int) (s : Sk) : Int := if wsum s.lv = 0 then 0 else (usum q s.lv : Int)
def rH (q : Int) (s : Sk) : Int := if wsum s.lv = 0 then 0 else rkHigh q s.lv s.lo s.hi
theorem rank_form (q : Int) (s : Sk) : (if wsum s.lv = 0 then Ending.returned (.tuple #[.agg #[.int .i64 0, .int .i64 0, .int .i64 0], .int .i64 8]) else .returned (.tuple #[.agg #[.int .i64 (rkLow q s.lv s.lo s.hi), .int .i64 (usum q s.lv : Int), .int .i64 (rkHigh q s.lv s.lo s.hi)], .int .i64 0])) = .returned (.tuple #[.agg #[.int .i64 (rL q s), .int .i64 (rM q s), .int .i64 (rH q s)], .int .i64 (eEr s)]) := by
  unfold rL rM rH eEr
  split <;> rfl
def dumpRk (q : Int) (s : Sk) : List Int := [rL q s, rM q s, rH q s, eEr s]
def dumpHd (s : Sk) : List Int := [(s.k : Int), (wsum s.lv : Int), (nsum s.lv : Int), (s.lv.length : Int), 0]
def dumpEn (s : Sk) : List Int := [eLo s, eHi s, eEr s]
def dumpLg (s : Sk) : List Int := [(esum s.lv : Int), (ssum s.lv : Int), 0, (s.lv.length : Int)]
/-- All that is told of a sketch. -/
def dumpOf (q : Int) (s : Sk) : List Int := dumpHd s ++ dumpEn s ++ dumpLg s ++ timesOf s.lv ++ dumpLv s.lv ++ dumpRk q s

/-- As far as it is told: the list of numbers, and the block that Size's answer lies in. -/
structure DSt (w wr : World) (zb : Nat) (zc : Array Value) (g n cap : Nat) (xs : List Int) : Prop where
  own : wr.ownsRow w.heap.size 3 1 (.slice (some ⟨g, 0, none⟩) n cap) n (ints xs)
  bel : Below w.heap.size w wr
  z : wr.heap[zb]? = some (.cells zc 99 (0, 0))
theorem DSt.later {w wr w' : World} {zb : Nat} {zc : Array Value} {g n cap : Nat} {xs : List Int} (h : DSt w wr zb zc g n cap xs) (hb : Below wr.heap.size wr w') : DSt w w' zb zc g n cap xs :=
  ⟨ownsRow_below h.own hb (fun _ e => ownsRow_lt h.own e), h.bel.trans (hb.mono h.bel.size), (hb.block zb (lt_of_blk' h.z)).trans h.z⟩
theorem row_ne {w : World} {base g n cap : Nat} {xs : List Value} (hown : w.ownsRow base 3 1 (.slice (some ⟨g, 0, none⟩) n cap) n xs) {b : Nat} {c : Array Value} {t : TypeId} {fr : Nat × Nat} (hb : w.heap[b]? = some (.cells c t fr)) (ht : t ≠ 3) : b ≠ g := by
  rintro rfl
  rcases hown.2 with ⟨e, _⟩ | ⟨g', cap', cur, e, _, hh, _⟩
  · cases e
  · cases e; rw [hb] at hh; cases hh; exact ht rfl
theorem DSt.app {w wr wx w' : World} {zb : Nat} {zc : Array Value} {g n cap g' n' cap' : Nat} {xs ys : List Int} (h : DSt w wr zb zc g n cap xs) (hx : Below wr.heap.size wr wx) (hown : w'.ownsRow w.heap.size 3 1 (.slice (some ⟨g', 0, none⟩) n' cap') n' (ints ys)) (hg : wx.grownBy w' (some g)) : DSt w w' zb zc g' n' cap' ys := by
  have h1 := h.later hx
  refine ⟨hown, h1.bel.grown hg h1.bel.size (fun k e => by cases e; exact (h.own.lt _ rfl).1), ?_⟩
  rw [hg.block zb (lt_of_blk' h1.z) (fun e => row_ne h1.own h1.z (by decide) (by cases e; rfl))]
  exact h1.z
theorem five_int (w : World) (a b c d e : Int) (t : TypeId) : ∀ j u, (ints [a, b, c, d, e])[j]? = some u → (w.alloc (.cells #[.int .i64 a, .int .i64 b, .int .i64 c, .int .i64 d, .int .i64 e] t)).cell? ((⟨w.heap.size, 0, none⟩ : Addr).add j) = some u := by
  intro j u hu
  match j, hu with
  | 0, hu => simp [ints] at hu; subst hu; simp [Addr.add]
  | 1, hu => simp [ints] at hu; subst hu; simp [Addr.add]
  | 2, hu => simp [ints] at hu; subst hu; simp [Addr.add]
  | 3, hu => simp [ints] at hu; subst hu; simp [Addr.add]
  | 4, hu => simp [ints] at hu; subst hu; simp [Addr.add]
theorem four_int (w : World) (a b c d : Int) (t : TypeId) : ∀ j u, (ints [a, b, c, d])[j]? = some u → (w.alloc (.cells #[.int .i64 a, .int .i64 b, .int .i64 c, .int .i64 d] t)).cell? ((⟨w.heap.size, 0, none⟩ : Addr).add j) = some u := by
  intro j u hu
  match j, hu with
  | 0, hu => simp [ints] at hu; subst hu; simp [Addr.add]
  | 1, hu => simp [ints] at hu; subst hu; simp [Addr.add]
  | 2, hu => simp [ints] at hu; subst hu; simp [Addr.add]
  | 3, hu => simp [ints] at hu; subst hu; simp [Addr.add]
theorem three_int (w : World) (a b c : Int) (t : TypeId) : ∀ j u, (ints [a, b, c])[j]? = some u → (w.alloc (.cells #[.int .i64 a, .int .i64 b, .int .i64 c] t)).cell? ((⟨w.heap.size, 0, none⟩ : Addr).add j) = some u := by
  intro j u hu
  match j, hu with
  | 0, hu => simp [ints] at hu; subst hu; simp [Addr.add]
  | 1, hu => simp [ints] at hu; subst hu; simp [Addr.add]
  | 2, hu => simp [ints] at hu; subst hu; simp [Addr.add]
theorem two_int (w : World) (a b : Int) (t : TypeId) : ∀ j u, (ints [a, b])[j]? = some u → (w.alloc (.cells #[.int .i64 a, .int .i64 b] t)).cell? ((⟨w.heap.size, 0, none⟩ : Addr).add j) = some u := by
  intro j u hu
  match j, hu with
  | 0, hu => simp [ints] at hu; subst hu; simp [Addr.add]
  | 1, hu => simp [ints] at hu; subst hu; simp [Addr.add]
theorem below_al {w : World} (o : Obj) : Below w.heap.size w (w.alloc o) := (Below.refl _ _).alloc (Nat.le_refl _) _

set_option maxHeartbeats 2000000 in
set_option maxRecDepth 100000 in
theorem dump_new (p d i : Nat) (q : Int) (ps : Nat → Nat) (W : Wd) (w : World) (h : WdSt K w0 w p d nw ps W) (hi : i < nw) (hl : W.D.sks.length = nw) (hc : Came (W.D.sks.getD i Hd.none) (W.sd i)) (hro : Roomy (W.D.sks.getD i Hd.none).sk.k (W.D.sks.getD i Hd.none).sk.lv) :
    Calls Try.prog 37 #[.pointer (some ⟨p, 0, none⟩), .int .i64 (i : Int), .int .i64 q] w fun e w' => ∃ v, e = .returned v ∧ Ints w' v (dumpOf q (W.D.sks.getD i Hd.none).sk) ∧ Below w.heap.size w w' ∧ (∀ g, v.ownBlock = some g → w.heap.size ≤ g) := by
  obtain ⟨own, vs, vx, vw, h, _⟩ := h
  have hil : i < W.D.sks.length := by rw [hl]; exact hi
  have hss := ssum_small hc hro
  have HD := hid h.desk
  have HS := hid (deskSize d W.D i w h.desk hil hc.inok.ok)
  have HEN := hid (fun (w' : World) (hb : Below w.heap.size w w') => deskEnds d W.D i w' (HD.out.below hb) hil hc.inok.ok)
  have HLE := hid (fun (w' : World) (hb : Below w.heap.size w w') => deskLedger d W.D i w' (HD.out.below hb) hil hc.inok.ok hss)
  have HLV := hid (fun (w' : World) (hb : Below w.heap.size w w') (j : Nat) (hj : j < (W.D.sks.getD i Hd.none).sk.lv.length) => deskLevel d W.D i j w' (HD.out.below hb) hil hj hc.inok.ok)
  have HRK := hid (fun (w' : World) (hb : Below w.heap.size w w') => deskRank d W.D i q w' (HD.out.below hb) hil hc.inok.ok (fun j _ => (hc.lvok.at j).1) hss)
  rw [ends_form] at HEN
  simp only [rank_form] at HRK
  have HPB := hid h.blk
  have hpz := lt_of_blk' h.blk
  obtain ⟨c0, _⟩ := blk7 h.blk
  have hlen1 := hc.inok.ok.len1
  have hlen2 := hc.inok.ok.len
  have hnl := nsum_le (W.D.sks.getD i Hd.none).sk.lv
  have hcnt := hc.inok.ok.cnt
  generalize (W.D.sks.getD i Hd.none).sk = s at *
  have HDO : Hid (dumpOf q s = dumpHd s ++ dumpEn s ++ dumpLg s ++ timesOf s.lv ++ dumpLv s.lv ++ dumpRk q s) := rfl
  have HDH : Hid (dumpHd s = [(s.k : Int), (wsum s.lv : Int), (nsum s.lv : Int), (s.lv.length : Int), 0]) := rfl
  have HDE : Hid (dumpEn s = [eLo s, eHi s, eEr s]) := rfl
  have HDL : Hid (dumpLg s = [(esum s.lv : Int), (ssum s.lv : Int), 0, (s.lv.length : Int)]) := rfl
  have HDR : Hid (dumpRk q s = [rL q s, rM q s, rH q s, eEr s]) := rfl
  generalize dumpOf q s = DO at *
  generalize dumpHd s = DH at *
  generalize dumpEn s = DE at *
  generalize dumpLg s = DL at *
  generalize dumpRk q s = DR at *
  generalize eLo s = e0 at *
  generalize eHi s = e1 at *
  generalize eEr s = e2 at *
  generalize rL q s = r0 at *
  generalize rM q s = r1 at *
  generalize rH q s = r2 at *
  generalize s.lv = L at *
  generalize s.k = k at *
  generalize hlne : L.length = ln at *
  have HLN := hid hlne
  obtain ⟨i0, hi0, hz0, hz1, hz2⟩ := info_parts Try.infoInt
  clear h hc hlne hil hl hro hss
  go_enter Try.func37, Try.ntmps37
  go_wp2_with fail
  refine HS.out.mono ?_
  rintro e w1 ⟨rfl, hb1⟩
  have HB1 := hid hb1
  have HZB := hid (heap_alloc_new w1 (.cells #[.int .i64 (k : Int), .int .i64 (wsum L : Int), .int .i64 (nsum L : Int), .int .i64 (ln : Int)] 99))
  have hba : Below w.heap.size w (w1.alloc (.cells #[.int .i64 (k : Int), .int .i64 (wsum L : Int), .int .i64 (nsum L : Int), .int .i64 (ln : Int)] 99)) := hb1.alloc hb1.size _
  have HBA := hid hba
  clear hb1 HS hba
  go_upto_region 3 with fail
  generalize w1.alloc (.cells #[.int .i64 (k : Int), .int .i64 (wsum L : Int), .int .i64 (nsum L : Int), .int .i64 (ln : Int)] 99) = W2 at *
  generalize w1.heap.size = zb at *
  obtain ⟨z0, z1, z2, z3, zz⟩ := blk4 HZB.out
  have hs2 := HBA.out.size
  go_upto_region 4 with (first | (at_builtin; refine wpList_append_lies _ rfl (.tmp 27) (.tmp 37) 91 rfl w.heap.size 3 i0 (.int .i64 0) 1 8 Try.underlying91 hi0 hz0 hz1 hz2 rfl (by decide) (.slice none 0 0) 0 [] rfl (World.ownsRow_nil _ _ _ _) ⟨W2.heap.size, 0, none⟩ 5 5 (ints [(k : Int), (wsum L : Int), (nsum L : Int), (ln : Int), 0]) rfl rfl (five_int _ _ _ _ _ _ _) (ints_one _) (by decide) (by unfold maxLen; omega) (by omega) (by simp; omega) (W2.heap.size + 1) (by simp) ?_; intro g1 cap1 w3 hown3 hgrow3 hat3 hlt3; have HD3 : Hid (DSt w w3 zb #[.int .i64 (k : Int), .int .i64 (wsum L : Int), .int .i64 (nsum L : Int), .int .i64 (ln : Int)] g1 5 cap1 DH) := (by rw [HDH.out]; exact ⟨hown3, (HBA.out.trans ((below_al _).mono HBA.out.size)).grown hgrow3 (by simp; omega) (fun k h => by cases h), (hgrow3.block zb (by have := lt_of_blk' HZB.out; simp; omega) (fun e => by cases e)).trans ((Below.heap_alloc _ _ _ (lt_of_blk' HZB.out)).trans HZB.out)⟩); clear hown3 hgrow3 hat3 hlt3))
  clear z0 z1 z2 z3 zz hs2 HZB HBA HB1
  have c3 := (HD3.out.bel.cell (p := ⟨p, 0, none⟩) hpz).trans c0
  go_upto_region 6 with (first | (go_at_call 51; refine (HEN.out _ HD3.out.bel).mono ?_; rintro e w4 ⟨rfl, hb4⟩; have HD4 := hid (HD3.out.later hb4); have hs4 := HD4.out.bel.size; clear hb4) | (at_builtin; refine wpList_append_ints rfl (.tmp 49) (.tmp 53) rfl w.heap.size g1 5 cap1 DH rfl (HD4.out.later (below_al _)).own ⟨w4.heap.size, 0, none⟩ 3 3 [e0, e1, e2] rfl rfl (three_int _ _ _ _ _) (by omega) (by simp; omega) ?_; intro g2 cap2 w5 hown5 hgrow5; have HD5 : Hid (DSt w w5 zb #[.int .i64 (k : Int), .int .i64 (wsum L : Int), .int .i64 (nsum L : Int), .int .i64 (ln : Int)] g2 8 cap2 (DH ++ DE)) := (by rw [HDE.out]; exact HD4.out.app (below_al _) hown5 hgrow5); clear hown5 hgrow5))
  clear c3 hs4
  have c5 := (HD5.out.bel.cell (p := ⟨p, 0, none⟩) hpz).trans c0
  have hg2 : g2 < w5.heap.size := ownsRow_lt HD5.out.own rfl
  go_upto_region 7 with (first | (go_at_call 71; refine (HLE.out _ HD5.out.bel).mono ?_; rintro e w6 ⟨gt, ct, rfl, hgt, howt, hb6⟩; have HD6 := hid (HD5.out.later hb6); have hs6 := HD6.out.bel.size; have HOT := hid howt; have HGT : Hid (gt ≠ g2) := (by unfold Hid; omega); clear hb6 howt hgt))
  have HD7 := hid (HD6.out.later (below_al (.cells #[.slice (some ⟨gt, 0, none⟩) ln ct, .int .i64 (esum L : Int), .int .i64 (ssum L : Int)] 131)))
  have HLB := hid (heap_alloc_new w6 (.cells #[.slice (some ⟨gt, 0, none⟩) ln ct, .int .i64 (esum L : Int), .int .i64 (ssum L : Int)] 131))
  have HOT7 := hid (ownsRow_below HOT.out (below_al (.cells #[.slice (some ⟨gt, 0, none⟩) ln ct, .int .i64 (esum L : Int), .int .i64 (ssum L : Int)] 131)) (fun g e => ownsRow_lt HOT.out e))
  clear c5 hs6 hg2
  generalize w6.alloc (.cells #[.slice (some ⟨gt, 0, none⟩) ln ct, .int .i64 (esum L : Int), .int .i64 (ssum L : Int)] 131) = W7 at *
  generalize w6.heap.size = lb at *
  obtain ⟨y0, y1, y2, yz⟩ := blk3 HLB.out
  have hs7 := HD7.out.bel.size
  have hlb := lt_of_blk' HLB.out
  go_upto_region 8 with (at_builtin; refine wpList_append_ints rfl (.tmp 64) (.tmp 73) rfl w.heap.size g2 8 cap2 (DH ++ DE) rfl (HD7.out.later (below_al _)).own ⟨W7.heap.size, 0, none⟩ 4 4 [(esum L : Int), (ssum L : Int), 0, (ln : Int)] rfl rfl (four_int _ _ _ _ _ _) (by omega) (by simp; omega) ?_; intro g3 cap3 w8 hown8 hgrow8; have HG8 := hid hgrow8; have HD8 : Hid (DSt w w8 zb #[.int .i64 (k : Int), .int .i64 (wsum L : Int), .int .i64 (nsum L : Int), .int .i64 (ln : Int)] g3 12 cap3 (DH ++ DE ++ DL)) := (by rw [HDL.out]; exact HD7.out.app (below_al _) hown8 hgrow8); clear hown8 hgrow8)
  have hgz7 : gt < W7.heap.size := ownsRow_lt HOT7.out rfl
  have HLB8 : Hid (w8.heap[lb]? = some (.cells #[.slice (some ⟨gt, 0, none⟩) ln ct, .int .i64 (esum L : Int), .int .i64 (ssum L : Int)] 131 (0, 0))) := (HG8.out.block lb (by simp; omega) (fun e => row_ne HD7.out.own HLB.out (by decide) (by cases e; rfl))).trans ((Below.heap_alloc _ _ _ hlb).trans HLB.out)
  have HOT8 : Hid (w8.ownsRow 0 3 1 (.slice (some ⟨gt, 0, none⟩) ln ct) ln (ints (timesOf L))) := ownsRow_block HOT7.out (fun g e => by simp [Value.ownBlock] at e; subst e; exact (HG8.out.block _ (by simp; omega) (fun e => HGT.out (by cases e; rfl))).trans (Below.heap_alloc _ _ _ hgz7))
  clear y0 y1 y2 yz hs7 hlb HLB HOT7 HG8 hgz7 HOT HD7 HD6 HD5 HD4 HD3
  obtain ⟨y0, y1, y2, yz⟩ := blk3 HLB8.out
  have hs8 := HD8.out.bel.size
  go_upto_region 9 with (at_builtin; refine wpList_append_ints rfl (.tmp 75) (.tmp 77) rfl w.heap.size g3 12 cap3 (DH ++ DE ++ DL) rfl HD8.out.own ⟨gt, 0, none⟩ ln ct (timesOf L) rfl (by rw [timesOf_len, HLN.out]) (fun j u hu => by rw [Addr.add_lit, Nat.zero_add]; exact ownsRow_cell HOT8.out hu) (by omega) hs8 ?_; intro g4 cap4 w9 hown9 hgrow9; have HD9 := hid (HD8.out.app (Below.refl _ _) hown9 hgrow9); clear hown9 hgrow9)
  clear y0 y1 y2 yz hs8 HLB8 HOT8 HD8 HGT
  generalize hS0 : DH ++ DE ++ DL ++ timesOf L = S0 at *
  clear hS0
  go_wp2_with fail
  go_loopw [7, 14] (fun sv si wr => ∃ (j g cp n : Nat), j ≤ ln ∧ si = .int .i64 j ∧ sv = .slice (some ⟨g, 0, none⟩) n cp ∧ Hid (n = 12 + ln + (2 * j + nsum (L.take j))) ∧ Hid (DSt w wr zb #[.int .i64 (k : Int), .int .i64 (wsum L : Int), .int .i64 (nsum L : Int), .int .i64 (ln : Int)] g n cp (S0 ++ dumpLv (L.take j)))) (fun _ si _ => ln - (intOf si).toNat)
  case atStart => exact ⟨0, g4, cap4, 12 + ln, Nat.zero_le _, rfl, rfl, by simp [Hid, nsum], by simpa [dumpLv] using HD9⟩
  case round =>
    obtain ⟨j, gv, cv, n, hj, rfl, rfl, Hn, HDj⟩ := hrel
    clear HD9
    obtain ⟨z0, z1, z2, z3, zz⟩ := blk4 HDj.out.z
    have cj := (HDj.out.bel.cell (p := ⟨p, 0, none⟩) hpz).trans c0
    have hnt := nsum_take_le L j
    have hn9 : n ≤ 1000000000 := by have := Hn.out; omega
    by_cases hlt : j < ln
    · have hlt' : j < L.length := by rw [HLN.out]; exact hlt
      have g1' : decide ((j : Int) < (ln : Int)) = true := decide_eq_true (by omega)
      have g2' : decide ((j : Int) < 29) = true := decide_eq_true (by omega)
      have HL1 := hid (HLV.out wr HDj.out.bel j hlt)
      have HTK : Hid (L.take (j + 1) = L.take j ++ [L.getD j Lvl.none]) := by unfold Hid; rw [List.take_succ_eq_append_getElem hlt']; simp [List.getD, hlt']
      have HDS := hid (dumpLv_snoc (L.take j) (L.getD j Lvl.none))
      have HNS : Hid (nsum (L.take (j + 1)) = nsum (L.take j) + (L.getD j Lvl.none).items.length) := by unfold Hid; rw [HTK.out, nsum_app]; simp [nsum]
      have hnt1 := nsum_take_le L (j + 1)
      rw [HNS.out] at hnt1
      rw [← HTK.out] at HDS
      generalize (L.getD j Lvl.none).items = its at *
      generalize hm : its.length = m at *
      have HM := hid hm
      clear hm
      go_upto_region 13 with (go_at_call 43; refine HL1.out.mono ?_; rintro e w5 ⟨rfl, hI5, hb5⟩; have HI5 := hid hI5; have HB5 := hid hb5; clear hI5 hb5)
      have HD5 := hid (HDj.out.later HB5.out)
      have hs5 := HD5.out.bel.size
      have hgv : gv < wr.heap.size := ownsRow_lt HDj.out.own rfl
      generalize hG : wr.heap.size = G at *
      clear hG HB5 HL1 z0 z1 z2 z3 zz cj
      go_upto_region 14 with (at_builtin; refine wpList_append_ints rfl (.tmp 99) (.tmp 103) rfl w.heap.size gv n cv (S0 ++ dumpLv (L.take j)) rfl (HD5.out.later (below_al _)).own ⟨w5.heap.size, 0, none⟩ 2 2 [0, (m : Int)] rfl rfl (two_int _ _ _ _) (by omega) (by simp; omega) ?_; intro g6 cap6 w6 hown6 hgrow6; have HG6 := hid hgrow6; have HD6 := hid (HD5.out.app (below_al _) hown6 hgrow6); clear hown6 hgrow6)
      have hgz : G < w5.heap.size := ownsRow_lt HI5.out rfl
      have HI6 : Hid (Ints w6 (.slice (some ⟨G, 0, none⟩) m m) its) := HI5.out.block (fun b e => by simp [Value.ownBlock] at e; subst e; exact (HG6.out.block _ (by simp; omega) (fun e => by cases e; omega)).trans (Below.heap_alloc _ _ _ hgz))
      have hs6 := HD6.out.bel.size
      clear HI5 HG6 HD5 hgz hs5
      go_wp2_with (at_builtin; refine wpList_append_ints rfl (.tmp 105) (.tmp 106) rfl w.heap.size g6 (n + 2) cap6 (S0 ++ dumpLv (L.take j) ++ [0, (m : Int)]) rfl HD6.out.own ⟨G, 0, none⟩ m m its rfl HM.out (fun j u hu => by rw [Addr.add_lit, Nat.zero_add]; have h9 := HI6.out; unfold Ints at h9; rw [HM.out] at h9; exact ownsRow_cell h9 hu) (by omega) hs6 ?_; intro g7 cap7 w7 hown7 hgrow7; have HD7 := hid (HD6.out.app (Below.refl _ _) hown7 hgrow7); clear hown7 hgrow7)
      go_roundw
      case rel =>
        refine ⟨j + 1, g7, cap7, n + 2 + m, by omega, by go_num, rfl, ?_, ?_⟩
        · have h1 := Hn.out; have h2 := HNS.out; unfold Hid; omega
        · have h9 := HD7.out
          rw [HDS.out]
          simp only [List.append_assoc] at h9 ⊢
          exact h9
      case measure => simp [intOf]; omega
    · obtain rfl : ln = j := by omega
      have g1' : decide ((ln : Int) < (ln : Int)) = false := decide_eq_false (by omega)
      have HTA : Hid (L.take ln = L) := List.take_of_length_le (by rw [HLN.out]; exact Nat.le_refl _)
      go_upto_region 16 with (go_at_call 48; refine (HRK.out _ HDj.out.bel).mono ?_; rintro e w5 ⟨rfl, hb5⟩; have HD5 := hid (HDj.out.later hb5); clear hb5)
      have HD6 := hid (HD5.out.later (below_al (.cells #[.int .i64 r0, .int .i64 r1, .int .i64 r2] 108)))
      have HRB := hid (heap_alloc_new w5 (.cells #[.int .i64 r0, .int .i64 r1, .int .i64 r2] 108))
      clear z0 z1 z2 z3 zz cj
      generalize w5.alloc (.cells #[.int .i64 r0, .int .i64 r1, .int .i64 r2] 108) = W6 at *
      generalize w5.heap.size = rb at *
      obtain ⟨y0, y1, y2, yz⟩ := blk3 HRB.out
      have hs6 := HD6.out.bel.size
      go_wp2_with (at_builtin; refine wpList_append_ints rfl (.tmp 118) (.tmp 126) rfl w.heap.size gv n cv (S0 ++ dumpLv (L.take ln)) rfl (HD6.out.later (below_al _)).own ⟨W6.heap.size, 0, none⟩ 4 4 [r0, r1, r2, e2] rfl rfl (four_int _ _ _ _ _ _) (by omega) (by simp; omega) ?_; intro g7 cap7 w7 hown7 hgrow7; have HD7 := hid (HD6.out.app (below_al _) hown7 hgrow7); clear hown7 hgrow7)
      go_ret
      refine ⟨_, rfl, ?_, HD7.out.bel, fun g hg => (HD7.out.own.lt g hg).1⟩
      have h9 := Ints.of HD7.out.own
      rw [HTA.out, ← HDR.out] at h9
      rw [HDO.out]
      exact h9

theorem dump_any (p d i : Nat) (q : Int) (ps : Nat → Nat) (W : Wd) (w : World) (h : WdSt K w0 w p d nw ps W) (hi : i < nw) (hl : W.D.sks.length = nw) (hc : Came (W.D.sks.getD i Hd.none) (W.sd i)) (hro : Roomy (W.D.sks.getD i Hd.none).sk.k (W.D.sks.getD i Hd.none).sk.lv) :
    Calls Try.prog 37 #[.pointer (some ⟨p, 0, none⟩), .int .i64 (i : Int), .int .i64 q] w fun e w' => ∃ v, e = .returned v ∧ Ints w' v (dumpOf q (W.D.sks.getD i Hd.none).sk) ∧ Below w.heap.size w w' :=
  (dump_new p d i q ps W w h hi hl hc hro).mono (fun _ _ ⟨v, h1, h2, h3, _⟩ => ⟨v, h1, h2, h3⟩)

end Go.Proofs.Ytklicjbpjigfdab

/- DERIVED. A step as a relation of worlds; two worlds side by side in one memory. -/
namespace Go.Proofs.Ytklicjbpjigfdab
open Go.RowKit
variable {K : Nat → Prop} {w0 : World}

/-- A number comes into sketch i. -/
def AddR (i : Nat) (x : Int) (wt : Nat) (W W' : Wd) : Prop :=
  (268435456 < wsum (W.D.sks.getD i Hd.none).sk.lv + wt ∧ W' = W) ∨
  (wsum (W.D.sks.getD i Hd.none).sk.lv + wt ≤ 268435456 ∧ ∃ cs L' a, DrawOk W cs a ∧ settle (W.D.sks.getD i Hd.none).sk.k cs 0 (addL (W.D.sks.getD i Hd.none) x wt) = some (L', cs.length) ∧ cs.length ≤ 29 ∧ W' = W.took i x wt L' cs.length a)
/-- Sketch j comes into sketch i. -/
def MergeR (i j : Nat) (W W' : Wd) : Prop :=
  (268435456 < wsum (W.D.sks.getD i Hd.none).sk.lv + wsum (W.D.sks.getD j Hd.none).sk.lv ∧ W' = W) ∨
  (wsum (W.D.sks.getD i Hd.none).sk.lv + wsum (W.D.sks.getD j Hd.none).sk.lv ≤ 268435456 ∧ ∃ cs L' a, DrawOk W cs a ∧ settle (mgK (W.D.sks.getD i Hd.none) (W.D.sks.getD j Hd.none)) cs 0 (mgL (W.D.sks.getD i Hd.none) (W.D.sks.getD j Hd.none)) = some (L', cs.length) ∧ cs.length ≤ 230 ∧ W' = W.joined i j L' cs.length a)
def StepR (kd A B C : Int) (W W' : Wd) : Prop := (kd = 1 ∧ MergeR (pickN A 3) (pickN B 3) W W') ∨ (kd ≠ 1 ∧ AddR (pickN A 3) B (weightN C) W W')

theorem AddPost.rel {nw p d i : Nat} {ps : Nat → Nat} {x : Int} {wt : Nat} {W : Wd} {w' : World} (h : AddPost K w0 p d nw i ps x wt W w') : ∃ W', WdSt K w0 w' p d nw ps W' ∧ AddR i x wt W W' := by
  rcases h with ⟨h1, hst⟩ | ⟨hf, cs, L', a, ha, hs, hcs, hst⟩
  · exact ⟨W, hst, .inl ⟨h1, rfl⟩⟩
  · exact ⟨_, hst, .inr ⟨hf, cs, L', a, ha, hs, hcs, rfl⟩⟩
theorem MergePost.rel {nw p d i j : Nat} {ps : Nat → Nat} {W : Wd} {w' : World} (h : MergePost K w0 p d nw i j ps W w') : ∃ W', WdSt K w0 w' p d nw ps W' ∧ MergeR i j W W' := by
  rcases h with ⟨h1, hst⟩ | ⟨hf, cs, L', a, ha, hs, hcs, hst⟩
  · exact ⟨W, hst, .inl ⟨h1, rfl⟩⟩
  · exact ⟨_, hst, .inr ⟨hf, cs, L', a, ha, hs, hcs, rfl⟩⟩
theorem AddR.inv {m i : Nat} {x : Int} {wt : Nat} {W W' : Wd} (h : AddR i x wt W W') (hm : MInvM m W) (hi : i < m) (hw1 : 1 ≤ wt) (hw2 : wt ≤ 268435456) : MInvM m W' := by
  rcases h with ⟨_, rfl⟩ | ⟨hf, cs, L', a, ha, hs, hcs, rfl⟩
  · exact hm
  · exact minv_took hm hi hw1 hw2 hf ha.1 hs hcs
theorem MergeR.inv {m i j : Nat} {W W' : Wd} (h : MergeR i j W W') (hm : MInvM m W) (hi : i < m) (hj : j < m) : MInvM m W' := by
  rcases h with ⟨_, rfl⟩ | ⟨hf, cs, L', a, ha, hs, hcs, rfl⟩
  · exact hm
  · exact minv_joined hm hi hj hf ha.1 hs hcs
theorem StepR.inv {kd A B C : Int} {W W' : Wd} (h : StepR kd A B C W W') (hm : MInv W) : MInv W' := by
  rcases h with ⟨_, h⟩ | ⟨_, h⟩
  · exact h.inv hm (pickN_lt A (by omega)) (pickN_lt B (by omega))
  · exact h.inv hm (pickN_lt A (by omega)) (weightN_bd C).1 (weightN_bd C).2
theorem step_rel (p d : Nat) (kd A B C : Int) (ps : Nat → Nat) (W : Wd) (w : World) (h : WdSt K w0 w p d 3 ps W) (hok : MInv W) (hA : InRange A) (hB : InRange B) (hC : InRange C) :
    Calls Try.prog 31 #[.pointer (some ⟨p, 0, none⟩), .agg #[.int .i64 kd, .int .i64 A, .int .i64 B, .int .i64 C]] w fun e w' => e = .returned (.bool true) ∧ ∃ W', WdSt K w0 w' p d 3 ps W' ∧ StepR kd A B C W W' := by
  by_cases hkd : kd = 1
  · subst hkd
    refine (stepm_any p d A B C ps W w h hok hA hB).mono ?_
    rintro e w' ⟨rfl, hp⟩
    obtain ⟨W', h1, h2⟩ := hp.rel
    exact ⟨rfl, W', h1, .inl ⟨rfl, h2⟩⟩
  · refine (step_any p d kd A B C ps W w h hok.ok hkd hA hC).mono ?_
    rintro e w' ⟨rfl, hp⟩
    obtain ⟨W', h1, h2⟩ := hp.rel
    exact ⟨rfl, W', h1, .inr ⟨hkd, h2⟩⟩

/-- Two worlds side by side: no block is of both; the blocks of K are of neither, and as they were. -/
def Two (K : Nat → Prop) (w0 w : World) (pA dA : Nat) (psA : Nat → Nat) (WA : Wd) (pB dB : Nat) (psB : Nat → Nat) (WB : Wd) : Prop :=
  ∃ oA vsA vxA vwA oB vsB vxB vwB, WdAt oA w pA dA 3 WA psA vsA vxA vwA ∧ WdAt oB w pB dB 3 WB psB vsB vxB vwB ∧ (∀ b, oA b ≠ 0 → oB b = 0) ∧ (∀ b, K b → oA b = 0 ∧ oB b = 0 ∧ b < w0.heap.size) ∧ Keeps K w0 w
theorem Two.swap {w : World} {pA dA pB dB : Nat} {psA psB : Nat → Nat} {WA WB : Wd} (h : Two K w0 w pA dA psA WA pB dB psB WB) : Two K w0 w pB dB psB WB pA dA psA WA := by
  obtain ⟨oA, a1, a2, a3, oB, b1, b2, b3, hA, hB, hd, hk, hK⟩ := h
  exact ⟨oB, b1, b2, b3, oA, a1, a2, a3, hB, hA, fun b hb => Decidable.byContradiction fun hn => hb (hd b hn), fun b e => ⟨(hk b e).2.1, (hk b e).1, (hk b e).2.2⟩, hK⟩
theorem Two.below {w w' : World} {pA dA pB dB : Nat} {psA psB : Nat → Nat} {WA WB : Wd} (h : Two K w0 w pA dA psA WA pB dB psB WB) (hb : Below w.heap.size w w') : Two K w0 w' pA dA psA WA pB dB psB WB := by
  obtain ⟨oA, a1, a2, a3, oB, b1, b2, b3, hA, hB, hd, hk, hK⟩ := h
  exact ⟨oA, a1, a2, a3, oB, b1, b2, b3, hA.below hb, hB.below hb, hd, hk, hK.below hb (fun b e => (hk b e).2.2)⟩
theorem Two.left {w : World} {pA dA pB dB : Nat} {psA psB : Nat → Nat} {WA WB : Wd} (h : Two K w0 w pA dA psA WA pB dB psB WB) : WdSt K w0 w pA dA 3 psA WA := by
  obtain ⟨oA, a1, a2, a3, oB, b1, b2, b3, hA, hB, hd, hk, hK⟩ := h
  exact ⟨oA, a1, a2, a3, hA, fun b e => ⟨(hk b e).1, (hk b e).2.2⟩, hK⟩
theorem Two.keeps {w : World} {pA dA pB dB : Nat} {psA psB : Nat → Nat} {WA WB : Wd} (h : Two K w0 w pA dA psA WA pB dB psB WB) : Keeps K w0 w := h.left.keeps
/-- The left one may take a step. -/
theorem Two.opened {w : World} {pA dA pB dB : Nat} {psA psB : Nat → Nat} {WA WB : Wd} (h : Two K w0 w pA dA psA WA pB dB psB WB) : ∃ K' : Nat → Prop, WdSt K' w w pA dA 3 psA WA ∧ ∀ w' W', WdSt K' w w' pA dA 3 psA W' → Two K w0 w' pA dA psA W' pB dB psB WB := by
  obtain ⟨oA, a1, a2, a3, oB, b1, b2, b3, hA, hB, hd, hk, hK⟩ := h
  refine ⟨fun b => oB b ≠ 0 ∨ K b, ⟨oA, a1, a2, a3, hA, fun b e => ⟨by
    rcases e with e | e
    · exact Decidable.byContradiction fun hn => e (hd b hn)
    · exact (hk b e).1, by
    rcases e with e | e
    · exact hB.lt b e
    · exact Nat.lt_of_lt_of_le (hk b e).2.2 hK.size⟩, Keeps.refl _ _⟩, ?_⟩
  rintro w' W' ⟨oA', c1, c2, c3, hA', hk', hK'⟩
  refine ⟨oA', c1, c2, c3, oB, b1, b2, b3, hA', hB.keep hK'.size (fun b e => hK'.block b (.inl e)), fun b e => Decidable.byContradiction fun hn => e (hk' b (.inl hn)).1, fun b e => ⟨(hk' b (.inr e)).1, (hk b e).2⟩, ?_⟩
  exact ⟨hK'.os.trans hK.os, hK'.tape.trans hK.tape, hK'.output.trans hK.output, Nat.le_trans hK.size hK'.size, fun b e => (hK'.block b (.inr e)).trans (hK.block b e)⟩
/-- A second world is begun beside the first. -/
theorem Two.begun {w1 w2 : World} {pA dA pB dB : Nat} {psA psB : Nat → Nat} {WA WB : Wd} (hA : WdSt K w0 w1 pA dA 3 psA WA) (hB : WdSt (fun b => b < w1.heap.size) w1 w2 pB dB 3 psB WB) : Two K w0 w2 pA dA psA WA pB dB psB WB := by
  obtain ⟨oA, a1, a2, a3, hA, hk, hK⟩ := hA
  obtain ⟨oB, b1, b2, b3, hB, hk', hK'⟩ := hB
  refine ⟨oA, a1, a2, a3, oB, b1, b2, b3, hA.keep hK'.size (fun b e => hK'.block b (hA.lt b e)), hB, fun b e => (hk' b (hA.lt b e)).1, fun b e => ⟨(hk b e).1, (hk' b (Nat.lt_of_lt_of_le (hk b e).2 hK.size)).1, (hk b e).2⟩, ?_⟩
  exact ⟨hK'.os.trans hK.os, hK'.tape.trans hK.tape, hK'.output.trans hK.output, Nat.le_trans hK.size hK'.size, fun b e => (hK'.block b (Nat.lt_of_lt_of_le (hk b e).2 hK.size)).trans (hK.block b e)⟩

end Go.Proofs.Ytklicjbpjigfdab

/- DERIVED. A script that is played: the walk of the statement's own played. -/
namespace Go.Proofs.Ytklicjbpjigfdab
open Go.RowKit
variable {K : Nat → Prop} {w0 : World}

/-- A script is played. -/
def PlayR : List St → Wd → Wd → Prop
  | [], W, W' => W' = W
  | s :: l, W, W' => ∃ W1, StepR s.kd s.a s.b s.c W W1 ∧ PlayR l W1 W'
theorem PlayR.snoc {s : St} : ∀ {l : List St} {W W1 W2 : Wd}, PlayR l W W1 → StepR s.kd s.a s.b s.c W1 W2 → PlayR (l ++ [s]) W W2
  | [], _, _, _, h, hs => by cases h; exact ⟨_, hs, rfl⟩
  | _ :: _, _, _, _, ⟨V, h1, h2⟩, hs => ⟨V, h1, h2.snoc hs⟩

theorem first_minv (k : Int) (coins : ByteArray) (hc : coins.size ≤ 140737488355328) : MInv (Wd.first k coins 3) := by
  have h1 := first_inv k coins hc
  have h2 := first_sinv k coins hc
  have a0 := (h1.came 0 (by omega)).inok.ok.k2
  have a1 := (h1.came 1 (by omega)).inok.ok.k2
  have a2 := (h1.came 2 (by omega)).inok.ok.k2
  have hu : (Wd.first k coins 3).used = 0 := rfl
  refine ⟨h1.len, h1.tape, h1.at_, h1.coins, h1.most, by simp only [sumTo]; omega, h1.came, h2.roomy, h2.tall, fun i hi q => ?_, h1.uns⟩
  have : i = 0 ∨ i = 1 ∨ i = 2 := by omega
  rcases this with rfl | rfl | rfl
  all_goals exact ⟨Nat.zero_le _, Nat.zero_le _⟩

theorem take_step {ss : List St} {i : Nat} (h : i < ss.length) : ss.take (i + 1) = ss.take i ++ [ss.getD i St.zero] := by
  rw [List.take_succ_eq_append_getElem h]; simp [List.getD, h]

/-- The cells of a script that came in. -/
def StepsAt (w : World) (ao : Option Addr) (n : Nat) (ss : List St) : Prop := ∀ i, i < n → ∃ b off, ao = some ⟨b, off, none⟩ ∧ b < w.heap.size ∧ w.cell? ⟨b, off + i * 4, none⟩ = some (.int .i64 (ss.getD i St.zero).kd) ∧ w.cell? ⟨b, off + i * 4 + 1, none⟩ = some (.int .i64 (ss.getD i St.zero).a) ∧ w.cell? ⟨b, off + i * 4 + 2, none⟩ = some (.int .i64 (ss.getD i St.zero).b) ∧ w.cell? ⟨b, off + i * 4 + 3, none⟩ = some (.int .i64 (ss.getD i St.zero).c)
theorem StepsAt.keep {w w' : World} {ao : Option Addr} {n : Nat} {ss : List St} (h : StepsAt w ao n ss) (hs : w.heap.size ≤ w'.heap.size) (hb : ∀ b, b < w.heap.size → w'.heap[b]? = w.heap[b]?) : StepsAt w' ao n ss := by
  intro i hi
  obtain ⟨b, off, e, hz, q0, q1, q2, q3⟩ := h i hi
  have hbk : ∀ o, w'.cell? ⟨b, o, none⟩ = w.cell? ⟨b, o, none⟩ := fun o => World.cell?_of_block (hb b hz)
  exact ⟨b, off, e, Nat.lt_of_lt_of_le hz hs, by rw [hbk]; exact q0, by rw [hbk]; exact q1, by rw [hbk]; exact q2, by rw [hbk]; exact q3⟩

set_option maxHeartbeats 1000000 in
set_option maxRecDepth 100000 in
theorem played_any (k : Int) (coins : ByteArray) (ao : Option Addr) (n cap : Nat) (ss : List St) (w : World) (hk1 : -9223372036854775808 ≤ k) (hk2 : k ≤ 9223372036854775807) (hcs : coins.size ≤ 140737488355328) (hl : ss.length = n) (hr : n * 32 ≤ 140737488351232) (hrg : ∀ s ∈ ss, InRange s.a ∧ InRange s.b ∧ InRange s.c) (hc : StepsAt w ao n ss) :
    Calls Try.prog 8 #[.int .i64 k, .string coins, .slice ao n cap] w fun e w' => ∃ p d ps W, e = .returned (.pointer (some ⟨p, 0, none⟩)) ∧ WdSt (fun b => b < w.heap.size) w w' p d 3 ps W ∧ MInv W ∧ PlayR ss (Wd.first k coins 3) W := by
  have HB := hid (begin_w k coins w hk1 hk2)
  have HC := hid hc
  have HINV := hid (first_minv k coins hcs)
  have HRG := hid hrg
  have HL := hid hl
  clear hc hrg hl
  go_enter Try.func8, Try.ntmps8
  go_wp2_with fail
  refine HB.out.mono ?_
  rintro e w1 ⟨p, d, ps, rfl, hst1⟩
  have HST1 := hid hst1
  clear hst1 HB
  go_wp2_with fail
  go_loopw [8] (fun si wr => ∃ (i : Nat) (W : Wd), i ≤ n ∧ si = .int .i64 i ∧ Hid (MInv W) ∧ Hid (PlayR (ss.take i) (Wd.first k coins 3) W) ∧ Hid (WdSt (fun b => b < w.heap.size) w wr p d 3 ps W)) (fun si _ => n - (intOf si).toNat)
  case atStart => exact ⟨0, _, Nat.zero_le _, rfl, HINV, by rw [List.take_zero]; exact rfl, HST1⟩
  case round =>
    obtain ⟨i, W, hi, rfl, Hinv, Hpl, Hst⟩ := hrel
    clear HST1 HINV
    by_cases hil : i < n
    · have hil' : i < ss.length := by rw [HL.out]; exact hil
      obtain ⟨bs, off, rfl, hbz, q0, q1, q2, q3⟩ := HC.out i hil
      have hke := Hst.out.keeps
      have hbk : ∀ o, wr.cell? ⟨bs, o, none⟩ = w.cell? ⟨bs, o, none⟩ := fun o => World.cell?_of_block (hke.block bs hbz)
      rw [← hbk] at q0 q1 q2 q3
      have hmem : ss.getD i St.zero ∈ ss := by simp [List.getD, hil']
      have hg := HRG.out _ hmem
      have HTK := hid (take_step hil')
      generalize ss.getD i St.zero = st at *
      have HSP := hid (step_rel p d st.kd st.a st.b st.c ps W wr Hst.out Hinv.out hg.1 hg.2.1 hg.2.2)
      clear hmem hg hbk hke
      go_wp2_with fail
      refine HSP.out.mono ?_
      rintro e w6 ⟨rfl, W', hst', hrel'⟩
      have HS' := hid hst'
      have HI' := hid (hrel'.inv Hinv.out)
      have HP' : Hid (PlayR (ss.take (i + 1)) (Wd.first k coins 3) W') := by rw [HTK.out]; exact Hpl.out.snoc hrel'
      clear hst' hrel'
      go_wp2_with fail
      go_roundw
      case rel => exact ⟨i + 1, W', by omega, by go_num, HI', HP', HS'⟩
      case measure => simp [intOf]; omega
    · obtain rfl : i = n := by omega
      go_wp2_with fail
      go_ret
      have h9 := Hpl.out
      rw [← HL.out, List.take_length] at h9
      exact ⟨p, d, ps, W, rfl, Hst.out, Hinv.out, h9⟩

end Go.Proofs.Ytklicjbpjigfdab
