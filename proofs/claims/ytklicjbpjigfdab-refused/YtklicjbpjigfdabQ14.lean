/- DERIVED. The walk of step: a step that lets a number come in. -/
import Derived.Test.YtklicjbpjigfdabQ13
import Derived.Deep.RegionWith
import Derived.Deep.DrawnRows
import Derived.Test.YtklicjbpjigfdabQ11
namespace Go.Proofs.Ytklicjbpjigfdab
open Go.RowKit
attribute [local go_sem ↓] Go.wp_at_zero Go.wp_at_succ
variable {K : Nat → Prop} {w0 : World}

/-- What the world must be for a step. -/
structure WdOk (W : Wd) : Prop where
  len : W.D.sks.length = 3
  tape : W.D.tape = []
  at_ : W.at_ ≤ 140737488355328
  coins : W.coins.size ≤ 140737488355328
  most : W.most = -1
  used : W.used ≤ 1099511627776
  ins : ∀ i, i < 3 → InOk (W.D.sks.getD i Hd.none) (W.sd i)
  uns : ∀ i, i < 3 → (W.D.sks.getD i Hd.none).sealed = false

def InRange (c : Int) : Prop := -9223372036854775808 ≤ c ∧ c ≤ 9223372036854775807

theorem weightN_bd (c : Int) : 1 ≤ weightN c ∧ weightN c ≤ 268435456 := by
  have := pickN_lt c (n := 268435456) (by omega)
  unfold weightN; omega

set_option maxHeartbeats 2000000 in
set_option maxRecDepth 100000 in
theorem step_any (p d : Nat) (kd A B C : Int) (ps : Nat → Nat) (W : Wd) (w : World) (h : WdSt K w0 w p d 3 ps W) (hok : WdOk W) (hkd : kd ≠ 1) (hA : InRange A) (hC : InRange C) :
    Calls Try.prog 31 #[.pointer (some ⟨p, 0, none⟩), .agg #[.int .i64 kd, .int .i64 A, .int .i64 B, .int .i64 C]] w fun e w' => e = .returned (.bool true) ∧ AddPost K w0 p d 3 (pickN A 3) ps B (weightN C) W w' := by
  have hkd' : (kd == 1) = false := by simpa using hkd
  have hst := h.below ((Below.refl w.heap.size w).alloc (Nat.le_refl _) (.cells #[.int .i64 kd, .int .i64 A, .int .i64 B, .int .i64 C] 39))
  have HP := hid (fun (w' : World) => pick_any A 3 w' hA.1 hA.2 (by omega) (by omega))
  have HW := hid (fun (w' : World) => weight_any C w' hC.1 hC.2)
  have hpl := pickN_lt A (n := 3) (by omega)
  have hwb := weightN_bd C
  have HAD := hid (fun (w' : World) (hb : WdSt K w0 w' p d 3 ps W) => wadd_any p d (pickN A 3) (weightN C) B ps W w' hb hpl hok.len (hok.uns _ hpl) (hok.ins _ hpl) hok.tape hwb.1 hwb.2 hok.at_ hok.coins hok.most hok.used)
  generalize pickN A 3 = a at *
  generalize weightN C = c at *
  have HST := hid hst
  clear h hst hok hkd
  go_enter Try.func31, Try.ntmps31
  go_wp2_with (first | (go_at_call 9; refine (HP.out _).mono ?_; rintro e w' ⟨rfl, hw⟩; obtain rfl := hw.symm))
  go_region_with (first | (go_at_call 40; refine (HW.out _).mono ?_; rintro e w' ⟨rfl, hw⟩; obtain rfl := hw.symm) | (go_at_call 41; refine (HAD.out _ ?_).mono ?_; exact HST.out.drew; rintro e w1 ⟨rfl, hpost⟩))
  all_goals
    have HPO := hid hpost
    clear hpost
    go_wp2_with fail
    go_ret
    exact ⟨rfl, HPO.out⟩

end Go.Proofs.Ytklicjbpjigfdab

/- DERIVED. The walks of open and begin: a desk with three sketches on it. -/
namespace Go.Proofs.Ytklicjbpjigfdab
open Go.RowKit
variable {K : Nat → Prop} {w0 : World}

/-- A side into which nothing came. -/
def Sd.begun (k : Nat) : Sd := { xs := [], ws := [], n := 0, k := k, ones := true, gone := false }
def Wd.opened (W : Wd) (m k : Nat) : Wd := { W with D := { W.D with sks := W.D.sks ++ [Hd.begun k] }, sd := fun j => if j = m then Sd.begun k else W.sd j }
def psOpen (ps : Nat → Nat) (m s : Nat) : Nat → Nat := fun j => if j = m then s else ps j

theorem ptrs_open (ps : Nat → Nat) (m s : Nat) : ptrs (psOpen ps m s) (m + 1) = ptrs ps m ++ [.pointer (some ⟨s, 0, none⟩)] := by
  unfold ptrs
  rw [List.range_succ, List.map_append]
  congr 1
  · apply List.map_congr_left
    intro j hj
    have : j < m := by simpa using hj
    simp [psOpen, show j ≠ m by omega]
  · simp [psOpen]

theorem wd_set1 {w : World} {p d : Nat} {vs V : Value} {W : Wd} (h : w.heap[p]? = some (wdBlk d vs W)) : (w.setCell ⟨p, 1, none⟩ V).heap[p]? = some (wdBlk d V W) := by
  have := blk_set (i := 1) V h
  simpa using this

/-- One side more. -/
theorem WdAt.push {own : Nat → Nat} {w wx w2 : World} {p d m k g2 cap2 : Nat} {W : Wd} {ps : Nat → Nat} {vs : Value} {vx vw : Nat → Value} (h : WdAt own w p d m W ps vs vx vw) (hm : m < 4) (h2K : ∀ b, K b → own b = 0 ∧ b < w0.heap.size) (hk : Keeps K w0 w)
    (hx : Below w.heap.size w wx) (hs : wx.heap[w.heap.size]? = some (sdBlk (.slice none 0 0) (.slice none 0 0) 0 k true false)) (hxz : wx.heap.size = w.heap.size + 2)
    (hown : w2.ownsRow 0 90 1 (.slice (some ⟨g2, 0, none⟩) (m + 1) cap2) (m + 1) (ptrs ps m ++ [.pointer (some ⟨w.heap.size, 0, none⟩)])) (hgrow : wx.grownBy w2 vs.ownBlock) (hat : vs.ownBlock = some g2 ∨ g2 = w.heap.size + 2) :
    WdSt K w0 (w2.setCell ⟨p, 1, none⟩ (.slice (some ⟨g2, 0, none⟩) (m + 1) cap2)) p d (m + 1) (psOpen ps m w.heap.size) { W with sd := fun j => if j = m then Sd.begun k else W.sd j } := by
  have hpz := lt_of_blk' h.blk
  have hz2 : w.heap.size + 2 ≤ w2.heap.size := by have := hgrow.size; omega
  have hvp : ∀ b, vs.ownBlock = some b → b ≠ p := by
    intro b e e'
    subst e'
    rcases h.row.2 with ⟨e', _⟩ | ⟨g', c', cur, e', _, hh, _⟩
    · rw [e'] at e; simp [Value.ownBlock] at e
    · rw [e'] at e; simp [Value.ownBlock] at e; subst e
      rw [h.blk] at hh; cases hh
  have hvz : ∀ b, vs.ownBlock = some b → b < w.heap.size := fun b e => ownsRow_lt h.row e
  have hg2p : g2 ≠ p := by
    rcases hat with e | e
    · exact hvp _ e
    · omega
  have hg2s : g2 ≠ w.heap.size := by
    rcases hat with e | e
    · have := hvz _ e; omega
    · omega
  have hkeep : ∀ b, b < w.heap.size → b ≠ p → vs.ownBlock ≠ some b → (w2.setCell ⟨p, 1, none⟩ (.slice (some ⟨g2, 0, none⟩) (m + 1) cap2)).heap[b]? = w.heap[b]? := by
    intro b hb hp hv
    rw [Below.heap_setCell _ _ _ _ hp, hgrow.block b (by omega) (fun e => hv e.symm), hx.block b hb]
  have hkeepo : ∀ b, own b ≠ 0 → own b ≠ 1000 → (w2.setCell ⟨p, 1, none⟩ (.slice (some ⟨g2, 0, none⟩) (m + 1) cap2)).heap[b]? = w.heap[b]? := fun b e0 e1 =>
    hkeep b (h.lt b e0) (fun e => by subst e; exact e1 h.op) (fun e => e1 (h.ors b e))
  obtain ⟨vt, vk, rs, hin⟩ := h.desk
  have hin' := hin.keep (w' := w2.setCell ⟨p, 1, none⟩ (.slice (some ⟨g2, 0, none⟩) (m + 1) cap2)) (by rw [setCell_size]; omega) (fun b e => hkeepo b (by omega) (by omega))
  have hold : ∀ b n, n ≠ 0 → own b = n → (if own b = 0 then (if b = w.heap.size then 2 + m else if b = g2 then 1000 else 0) else own b) = n := fun b n hn e => by rw [if_neg (by omega)]; exact e
  have hnone : ∀ b, w.heap.size ≤ b → own b = 0 := fun b hb => Decidable.byContradiction fun hn => by have := h.lt b hn; omega
  refine ⟨fun b => if own b = 0 then (if b = w.heap.size then 2 + m else if b = g2 then 1000 else 0) else own b, .slice (some ⟨g2, 0, none⟩) (m + 1) cap2, fun j => if j = m then .slice none 0 0 else vx j, fun j => if j = m then .slice none 0 0 else vw j, ⟨?_, hold p 1000 (by omega) h.op, ?_, ?_, ?_, ?_, ?_, by omega⟩, fun b e => ⟨?_, (h2K b e).2⟩, ?_⟩
  · refine wd_set1 (vs := vs) ?_
    rw [hgrow.block p (by omega) (fun e => hvp p e.symm rfl), hx.block p hpz]
    exact h.blk
  · rw [ptrs_open]
    exact ownsRow_block hown (fun b e => by simp [Value.ownBlock] at e; subst e; exact Below.heap_setCell _ _ _ _ hg2p)
  · intro b e
    simp [Value.ownBlock] at e
    subst e
    rcases hat with e | e
    · exact hold _ _ (by omega) (h.ors _ e)
    · rw [if_pos (hnone _ (by omega)), if_neg hg2s, if_pos rfl]
  · refine ⟨vt, vk, rs, hin'.blk, hold _ _ (by omega) hin'.fd, hin'.tp, fun b e => hold _ _ (by omega) (hin'.ftp b e), hin'.row, fun b e => hold _ _ (by omega) (hin'.frow b e), hin'.len, fun i hi => (hin'.lv i hi).mono (fun b e _ => hold _ _ (by omega) e), fun i hi => hold _ _ (by omega) (hin'.flv i hi), fun b e => ?_, hin'.tk, fun i hi b e => hold _ _ (by omega) (hin'.ftk i hi b e), hin'.dtk⟩
    rw [setCell_size]
    by_cases e0 : own b = 0
    · rw [if_pos e0] at e
      by_cases e1 : b = w.heap.size
      · omega
      · rw [if_neg e1] at e
        by_cases e2 : b = g2
        · rw [if_pos e2] at e; omega
        · rw [if_neg e2] at e; omega
    · have := h.lt b e0; omega
  · intro j hj
    by_cases e : j = m
    · subst e
      simp only [psOpen, if_true]
      refine ⟨?_, ?_, Ints.nil _, ?_, fun b e => by simp [Value.ownBlock] at e, fun b e => by simp [Value.ownBlock] at e, fun b e => by simp [Value.ownBlock] at e, rfl⟩
      · rw [Below.heap_setCell _ _ _ _ (by show w.heap.size ≠ p; omega), hgrow.block _ (by omega) (fun e => by have := hvz _ e.symm; omega)]
        exact hs
      · show (if own w.heap.size = 0 then _ else _) = _
        rw [if_pos (hnone _ (Nat.le_refl _)), if_pos rfl]
      · exact Ints.nil _
    · simp only [psOpen, if_neg e]
      have hj' : j < m := by omega
      have hs := (h.side j hj').keep (w' := w2.setCell ⟨p, 1, none⟩ (.slice (some ⟨g2, 0, none⟩) (m + 1) cap2)) (fun b e' _ => hkeepo b (by omega) (by omega))
      exact ⟨hs.blk, hold _ _ (by omega) hs.gp, hs.ix, hs.iw, fun b e => hold _ _ (by omega) (hs.gx b e), fun b e => hold _ _ (by omega) (hs.gw b e), hs.ne, hs.len⟩
  · intro b e
    rw [setCell_size]
    by_cases e0 : own b = 0
    · rw [if_pos e0] at e
      by_cases e1 : b = w.heap.size
      · omega
      · rw [if_neg e1] at e
        by_cases e2 : b = g2
        · subst e2; exact ownsRow_lt hown rfl
        · rw [if_neg e2] at e; omega
    · have := h.lt b e0; omega
  · have e1 := h2K b e
    have := hk.size
    have hvb : b ≠ g2 := by
      rcases hat with e2 | e2
      · intro e3; subst e3; have := h.ors _ e2; omega
      · omega
    show (if own b = 0 then _ else _) = 0
    rw [if_pos e1.1, if_neg (by omega), if_neg hvb]
  · refine ⟨hgrow.os.trans (hx.os.trans hk.os), hgrow.tape.trans (hx.tape.trans hk.tape), hgrow.output.trans (hx.output.trans hk.output), by rw [setCell_size]; have := hk.size; omega, fun b e => ?_⟩
    have e1 := h2K b e
    have := hk.size
    rw [hkeep b (by omega) (fun e2 => by subst e2; have := h.op; omega) (fun e2 => by have := h.ors b e2; omega)]
    exact hk.block b e

theorem Try.infoSideP : (Try.prog.info? 90).map (fun i => (i.zero, i.size, i.bytes)) = some (some (.pointer none), 1, 8) := by kernel_rfl
theorem one_ptr (x : Option Addr) : ∀ u ∈ [Value.pointer x], u.oneCell' = true := by
  intro u hu; simp at hu; subst hu; rfl

set_option maxHeartbeats 1000000 in
set_option maxRecDepth 100000 in
theorem wopen_any (p d m k : Nat) (ps : Nat → Nat) (W : Wd) (w : World) (h : WdSt K w0 w p d m ps W) (hm : m < 4) (hk1 : 2 ≤ k) (hk2 : k ≤ 64) (hl : W.D.sks.length = m) (hr : W.D.room = 4) :
    Calls Try.prog 53 #[.pointer (some ⟨p, 0, none⟩), .int .i64 (m : Int), .int .i64 (k : Int)] w fun e w' => e = .returned (.bool true) ∧ ∃ ps', WdSt K w0 w' p d (m + 1) ps' (W.opened m k) := by
  obtain ⟨own, vs, vx, vw, h, h2K, hk⟩ := h
  obtain ⟨c0, c1, c2, c3, c4, c5, c6, cz⟩ := blk7 h.blk
  have HO := hid (open_any (F := fun b => own b = 1) d k W.D w h.desk hk1 hk2 (by omega) (by omega))
  rw [hl] at HO
  have HH := hid h
  have H2 := hid h2K
  have HK := hid hk
  obtain ⟨i0, hi0, hz0, hz1, hz2⟩ := info_parts Try.infoSideP
  clear h h2K hk
  go_enter Try.func53, Try.ntmps53
  go_wp2_with fail
  refine HO.out.mono ?_
  rintro e w1 ⟨rfl, hst⟩
  have hst1 := HH.out.deskStep H2.out HK.out hst
  obtain ⟨own1, vs1, vx1, vw1, h1, h2K1, hk1'⟩ := hst1
  obtain ⟨d0, d1, d2, d3, d4, d5, d6, dz⟩ := blk7 h1.blk
  have hpz := lt_of_blk' h1.blk
  have H1 := hid h1
  have H21 := hid h2K1
  have HK1 := hid hk1'
  have HROW := hid h1.row
  have HVP : Hid (∀ b, vs1.ownBlock = some b → b ≠ p) := by
    intro b e e'
    subst e'
    rcases h1.row.2 with ⟨e', _⟩ | ⟨g', c', cur, e', _, hh, _⟩
    · rw [e'] at e; simp [Value.ownBlock] at e
    · rw [e'] at e; simp [Value.ownBlock] at e; subst e
      rw [h1.blk] at hh; cases hh
  have HBP := hid h1.blk
  obtain ⟨ao, cc, evs⟩ : ∃ ao cc, vs1 = .slice ao m cc := by
    rcases h1.row.2 with ⟨e', e2⟩ | ⟨g', c', cur, e', _⟩
    · exact ⟨none, 0, by rw [e', e2]⟩
    · exact ⟨_, _, e'⟩
  have HVS := hid evs
  rw [evs] at d1 HROW
  clear hst h1 h2K1 hk1' c0 c1 c2 c3 c4 c5 c6 cz evs hl
  go_wp2_with (first | (at_builtin; refine wpList_append_lies _ rfl (.tmp 22) (.tmp 26) 29 rfl 0 90 i0 (.pointer none) 1 8 Try.underlying29 hi0 hz0 hz1 hz2 rfl (by decide) (.slice ao m cc) m (ptrs ps m) rfl ((HROW.out.alloc _).alloc _) ⟨w1.heap.size + 1, 0, none⟩ 1 1 [.pointer (some ⟨w1.heap.size, 0, none⟩)] rfl rfl (one_new' (by simp) _ _) (one_ptr _) (by decide) (by unfold maxLen; omega) (by omega) (Nat.zero_le _) (w1.heap.size + 2) (by simp) ?_; intro g2 cap2 w2 hown2 hgrow2 hat2 hlt2; have hq2 : w2.heap[p]? = _ := (hgrow2.block p (by simp; omega) (fun e => HVP.out p (by rw [HVS.out]; exact e.symm) rfl)).trans ((Below.heap_alloc _ _ p (by simp; omega)).trans ((Below.heap_alloc w1 _ p hpz).trans HBP.out)); obtain ⟨q0, q1, q2, q3, q4, q5, q6, qz⟩ := blk7 hq2; have HO2 := hid hown2; have HG2 := hid hgrow2; have HA2 := hid hat2; clear hq2 hown2 hgrow2 hat2))
  go_ret
  refine ⟨rfl, psOpen ps m w1.heap.size, ?_⟩
  have hg2 := HG2.out
  have ha2 := HA2.out
  rw [← HVS.out] at hg2 ha2
  exact H1.out.push hm H21.out HK1.out (((Below.refl _ _).alloc (Nat.le_refl _) _).alloc (by simp) _) (by rw [Below.heap_alloc _ _ _ (by simp)]; exact heap_alloc_new _ _) (by simp) HO2.out hg2 ha2

/-- The three K out of the raw number. -/
def vOf (k : Int) : Nat → Nat
  | 0 => pickN k 1099511627776
  | n + 1 => vOf k n / 63
def kOf (k : Int) (i : Nat) : Nat := 2 + vOf k i % 63
theorem vOf_le (k : Int) (i : Nat) : vOf k i ≤ 1099511627776 := by
  induction i with
  | zero => have := pickN_lt k (n := 1099511627776) (by omega); simp only [vOf]; omega
  | succ i ih => simp only [vOf]; omega
theorem kOf_bd (k : Int) (i : Nat) : 2 ≤ kOf k i ∧ kOf k i ≤ 64 := by unfold kOf; omega

def Wd.start (coins : ByteArray) : Wd := { D := ⟨4, [], []⟩, sd := fun _ => Sd.begun 0, coins := coins, at_ := 0, used := 0, most := -1, short := false }
/-- The world with the first m sketches. -/
def Wd.first (k : Int) (coins : ByteArray) : Nat → Wd
  | 0 => Wd.start coins
  | m + 1 => (Wd.first k coins m).opened m (kOf k m)
theorem first_len (k : Int) (coins : ByteArray) (m : Nat) : (Wd.first k coins m).D.sks.length = m ∧ (Wd.first k coins m).D.room = 4 := by
  induction m with
  | zero => exact ⟨rfl, rfl⟩
  | succ m ih => simp [Wd.first, Wd.opened, ih.1, ih.2]

set_option maxHeartbeats 1000000 in
set_option maxRecDepth 100000 in
theorem begin_w (k : Int) (coins : ByteArray) (w : World) (h1 : -9223372036854775808 ≤ k) (h2 : k ≤ 9223372036854775807) :
    Calls Try.prog 30 #[.int .i64 k, .string coins] w fun e w' => ∃ p d ps, e = .returned (.pointer (some ⟨p, 0, none⟩)) ∧ WdSt (fun b => b < w.heap.size) w w' p d 3 ps (Wd.first k coins 3) := by
  have HN := hid (new_any 4 w (by omega) (by omega))
  have HP := hid (fun (w' : World) => pick_any k 1099511627776 w' h1 h2 (by omega) (by omega))
  go_enter Try.func30, Try.ntmps30
  go_wp2_with fail
  refine HN.out.mono ?_
  rintro e w1 ⟨rfl, hd, hb1⟩
  have HD := hid hd
  have HB1 := hid hb1
  have hz1 : w.heap.size < w1.heap.size := by
    obtain ⟨_, _, _, hin⟩ := hd
    exact hin.flt _ rfl
  clear hd hb1
  go_wp2_with (first | (go_at_call 9; refine (HP.out _).mono ?_; rintro e w' ⟨rfl, hw⟩; obtain rfl := hw.symm))
  have HST : Hid (WdSt (fun b => b < w.heap.size) w (w1.alloc (wdBlk w.heap.size (.slice none 0 0) (Wd.start coins))) w1.heap.size w.heap.size 0 (fun _ => 0) (Wd.first k coins 0)) := by
    obtain ⟨vt, vk, rs, hin⟩ := HD.out
    have hin' := hin.below ((Below.refl _ _).alloc (Nat.le_refl _) (wdBlk w.heap.size (.slice none 0 0) (Wd.start coins)))
    have hF : ∀ b, b = w.heap.size → (if b = w.heap.size then 1 else if b = w1.heap.size then 1000 else 0) = 1 := fun b e => by rw [if_pos e]
    refine ⟨fun b => if b = w.heap.size then 1 else if b = w1.heap.size then 1000 else 0, .slice none 0 0, fun _ => .slice none 0 0, fun _ => .slice none 0 0, ⟨heap_alloc_new _ _, ?_, World.ownsRow_nil _ _ _ _, fun b e => by simp [Value.ownBlock] at e, ⟨vt, vk, rs, hin'.blk, hF _ hin'.fd, hin'.tp, fun b e => hF b (hin'.ftp b e), hin'.row, fun b e => hF b (hin'.frow b e), hin'.len, fun i hi => (hin'.lv i hi).mono (fun b e _ => hF b e), fun i hi => hF _ (hin'.flv i hi), fun b e => ?_, hin'.tk, fun i hi b e => hF _ (hin'.ftk i hi b e), hin'.dtk⟩, fun i hi => by omega, fun b e => ?_, by omega⟩, fun b e => ⟨?_, e⟩, ?_⟩
    · rw [if_neg (by omega), if_pos rfl]
    · by_cases e1 : b = w.heap.size
      · simp; omega
      · rw [if_neg e1] at e
        by_cases e2 : b = w1.heap.size
        · rw [if_pos e2] at e; omega
        · rw [if_neg e2] at e; omega
    · by_cases e1 : b = w.heap.size
      · simp; omega
      · rw [if_neg e1] at e
        by_cases e2 : b = w1.heap.size
        · simp; omega
        · rw [if_neg e2] at e; omega
    · show (if b = w.heap.size then 1 else if b = w1.heap.size then 1000 else 0) = 0
      have e9 : b < w.heap.size := e
      rw [if_neg (by omega), if_neg (by omega)]
    · have hb := HB1.out.alloc HB1.out.size (wdBlk w.heap.size (.slice none 0 0) (Wd.start coins))
      exact ⟨hb.os, hb.tape, hb.output, hb.size, hb.block⟩
  clear HN HD
  generalize hpp : w1.heap.size = p at *
  clear hpp HB1
  go_loopw [8, 9] (fun sv si wr => ∃ (m : Nat) (ps : Nat → Nat), m ≤ 3 ∧ si = .int .i64 m ∧ sv = .int .i64 (vOf k m : Int) ∧ Hid (WdSt (fun b => b < w.heap.size) w wr p w.heap.size m ps (Wd.first k coins m))) (fun _ si _ => 3 - (intOf si).toNat)
  case atStart => exact ⟨0, _, Nat.zero_le _, rfl, rfl, HST⟩
  case round =>
    obtain ⟨m, ps, hm, rfl, rfl, Hst⟩ := hrel
    clear HST
    by_cases hlt : m < 3
    · have hl := first_len k coins m
      have hkb := kOf_bd k m
      have HO := hid (wopen_any p w.heap.size m (kOf k m) ps _ wr Hst.out (by omega) hkb.1 hkb.2 hl.1 hl.2)
      have hvb := vOf_le k m
      have HKE : Hid (kOf k m = 2 + vOf k m % 63) := rfl
      have HVE : Hid (vOf k (m + 1) = vOf k m / 63) := rfl
      have ek : (kOf k m : Int) = 2 + (vOf k m : Int) % 63 := by unfold kOf; omega
      rw [ek] at HO
      generalize vOf k m = v at *
      clear hl hkb ek
      go_wp2_with fail
      refine HO.out.mono ?_
      rintro e w2 ⟨rfl, ps', hst2⟩
      have HS2 := hid hst2
      clear hst2
      go_wp2_with fail
      go_roundw
      case rel => exact ⟨m + 1, ps', by omega, by go_num, by rw [HVE.out]; go_num, HS2⟩
      case measure => simp [intOf]; omega
    · have hm3 : m = 3 := by omega
      subst hm3
      go_wp2_with fail
      go_ret
      exact ⟨p, w.heap.size, ps, rfl, Hst.out⟩

end Go.Proofs.Ytklicjbpjigfdab

/- DERIVED. The book of the statement Refused in memory: a desk, a page for each sketch; who owns which block. -/
namespace Go.Proofs.Ytklicjbpjigfdab
open Go.RowKit

/-- A page: its count, is it sealed, what it took. -/
structure Pg where
  n : Nat
  sealed : Bool
  snd : List Int
  seq : List Int
def Pg.none : Pg := ⟨0, false, [], []⟩
/-- The book: its room, its coins, its pages. -/
structure Bk where
  room : Nat
  tape : Nat
  pg : List Pg
def sndL (l : List (Nat × Nat)) : List Int := l.map (fun p => (p.1 : Int))
def seqL (l : List (Nat × Nat)) : List Int := l.map (fun p => (p.2 : Int))

structure PgAt (G : Nat → Prop) (w : World) (q : Nat) (g : Pg) (vx vw : Value) : Prop where
  blk : w.heap[q]? = some (.cells #[.int .i64 (g.n : Int), .bool g.sealed, vx, vw] 141 (0, 0))
  gp : G q
  ix : Ints w vx g.snd
  iw : Ints w vw g.seq
  gx : ∀ b, vx.ownBlock = some b → G b
  gw : ∀ b, vw.ownBlock = some b → G b
  ne : ∀ b, vx.ownBlock = some b → vw.ownBlock ≠ some b
theorem PgAt.keep {G : Nat → Prop} {w w' : World} {q : Nat} {g : Pg} {vx vw : Value} (h : PgAt G w q g vx vw) (hb : ∀ b, G b → w'.heap[b]? = w.heap[b]?) : PgAt G w' q g vx vw :=
  ⟨(hb q h.gp).trans h.blk, h.gp, h.ix.block (fun b e => hb b (h.gx b e)), h.iw.block (fun b e => hb b (h.gw b e)), h.gx, h.gw, h.ne⟩
theorem PgAt.mono {G G' : Nat → Prop} {w : World} {q : Nat} {g : Pg} {vx vw : Value} (h : PgAt G w q g vx vw) (hG : ∀ b, G b → G' b) : PgAt G' w q g vx vw :=
  ⟨h.blk, hG _ h.gp, h.ix, h.iw, fun b e => hG b (h.gx b e), fun b e => hG b (h.gw b e), h.ne⟩

abbrev bkBlk (d : Nat) (vs : Value) (E : Bk) : Obj := .cells #[.pointer (some ⟨d, 0, none⟩), .int .i64 (E.room : Int), .int .i64 (E.tape : Int), vs] 60 (0, 0)

structure BkAt (own : Nat → Nat) (w : World) (p d : Nat) (D : Dk) (E : Bk) (ps : Nat → Nat) (vs : Value) (vx vw : Nat → Value) : Prop where
  blk : w.heap[p]? = some (bkBlk d vs E)
  op : own p = 1000
  row : w.ownsRow 0 139 1 vs E.pg.length (ptrs ps E.pg.length)
  ors : ∀ b, vs.ownBlock = some b → own b = 1000
  desk : DeskAt (fun b => own b = 1) w d D
  page : ∀ i, i < E.pg.length → PgAt (fun b => own b = 2 + i) w (ps i) (E.pg.getD i Pg.none) (vx i) (vw i)
  lt : ∀ b, own b ≠ 0 → b < w.heap.size
  few : E.pg.length ≤ 8
def BkSt (K : Nat → Prop) (w0 w : World) (p d : Nat) (D : Dk) (E : Bk) (ps : Nat → Nat) : Prop := ∃ own vs vx vw, BkAt own w p d D E ps vs vx vw ∧ (∀ b, K b → own b = 0 ∧ b < w0.heap.size) ∧ Keeps K w0 w
variable {K : Nat → Prop} {w0 : World}

theorem DeskAt.mono {F G : Nat → Prop} {w : World} {d : Nat} {D : Dk} (h : DeskAt F w d D) (hFG : ∀ b, F b → G b) (hG : ∀ b, G b → b < w.heap.size) : DeskAt G w d D := by
  obtain ⟨vt, vk, rs, hin⟩ := h
  exact ⟨vt, vk, rs, hin.blk, hFG d hin.fd, hin.tp, fun b e => hFG b (hin.ftp b e), hin.row, fun b e => hFG b (hin.frow b e), hin.len, fun i hi => (hin.lv i hi).mono (fun b e _ => hFG b e), fun i hi => hFG _ (hin.flv i hi), hG, hin.tk, fun i hi b e => hFG _ (hin.ftk i hi b e), hin.dtk⟩

theorem BkAt.keep {own : Nat → Nat} {w w' : World} {p d : Nat} {D : Dk} {E : Bk} {ps : Nat → Nat} {vs : Value} {vx vw : Nat → Value} (h : BkAt own w p d D E ps vs vx vw) (hs : w.heap.size ≤ w'.heap.size) (hb : ∀ b, own b ≠ 0 → w'.heap[b]? = w.heap[b]?) : BkAt own w' p d D E ps vs vx vw :=
  ⟨(hb p (by rw [h.op]; omega)).trans h.blk, h.op, ownsRow_block h.row (fun b e => hb b (by rw [h.ors b e]; omega)), h.ors, h.desk.keep hs (fun b e => hb b (by omega)), fun i hi => (h.page i hi).keep (fun b e => hb b (by omega)), fun b e => Nat.lt_of_lt_of_le (h.lt b e) hs, h.few⟩
theorem BkSt.below {w w' : World} {p d : Nat} {D : Dk} {E : Bk} {ps : Nat → Nat} (h : BkSt K w0 w p d D E ps) (hb : Below w.heap.size w w') : BkSt K w0 w' p d D E ps := by
  obtain ⟨own, vs, vx, vw, h, h2, h3⟩ := h
  exact ⟨own, vs, vx, vw, h.keep hb.size (fun b e => hb.block b (h.lt b e)), h2, h3.below hb (fun b e => (h2 b e).2)⟩
theorem BkSt.drew {w : World} {p d : Nat} {D : Dk} {E : Bk} {ps : Nat → Nat} (h : BkSt K w0 w p d D E ps) : BkSt K w0 w.drew p d D E ps := h.below ⟨rfl, rfl, rfl, Nat.le_refl _, fun _ _ => rfl⟩
theorem BkSt.drewN {w : World} {p d n : Nat} {D : Dk} {E : Bk} {ps : Nat → Nat} (h : BkSt K w0 w p d D E ps) : BkSt K w0 (w.drewN n) p d D E ps := h.below ⟨rfl, rfl, rfl, Nat.le_refl _, fun _ _ => rfl⟩
theorem BkSt.keeps {w : World} {p d : Nat} {D : Dk} {E : Bk} {ps : Nat → Nat} (h : BkSt K w0 w p d D E ps) : Keeps K w0 w := by
  obtain ⟨own, vs, vx, vw, _, _, h⟩ := h; exact h
theorem BkSt.fresh {w w2 : World} {p d : Nat} {D : Dk} {E : Bk} {ps : Nat → Nat} (h : BkSt K w0 w p d D E ps) (hb : Below w.heap.size w w2) : BkSt (fun b => K b ∨ (w.heap.size ≤ b ∧ b < w2.heap.size)) w2 w2 p d D E ps ∧ Keeps K w0 w2 := by
  obtain ⟨own, vs, vx, vw, h, h2K, hk⟩ := h
  refine ⟨⟨own, vs, vx, vw, h.keep hb.size (fun b e => hb.block b (h.lt b e)), fun b hb' => ?_, Keeps.refl _ _⟩, hk.below hb (fun b e => (h2K b e).2)⟩
  rcases hb' with hb' | hb'
  · exact ⟨(h2K b hb').1, Nat.lt_of_lt_of_le (Nat.lt_of_lt_of_le (h2K b hb').2 hk.size) hb.size⟩
  · refine ⟨?_, hb'.2⟩
    by_cases e : own b = 0
    · exact e
    · have := h.lt b e; omega
theorem BkSt.back {K' : Nat → Prop} {w w2 : World} {p d : Nat} {D : Dk} {E : Bk} {ps : Nat → Nat} (h : BkSt K' w2 w p d D E ps) (hK : ∀ b, K b → K' b) (hKl : ∀ b, K b → b < w0.heap.size) (hk : Keeps K w0 w2) : BkSt K w0 w p d D E ps := by
  obtain ⟨own, vs, vx, vw, h, h2K, h4⟩ := h
  exact ⟨own, vs, vx, vw, h, fun b hb => ⟨(h2K b (hK b hb)).1, hKl b hb⟩, ⟨h4.os.trans hk.os, h4.tape.trans hk.tape, h4.output.trans hk.output, Nat.le_trans hk.size h4.size, fun b hb => (h4.block b (hK b hb)).trans (hk.block b hb)⟩⟩
theorem BkSt.kl {w : World} {p d : Nat} {D : Dk} {E : Bk} {ps : Nat → Nat} (h : BkSt K w0 w p d D E ps) : ∀ b, K b → b < w0.heap.size := by
  obtain ⟨own, vs, vx, vw, _, h2K, _⟩ := h
  exact fun b hb => (h2K b hb).2

/-- New blocks are given to owner o. -/
def own2 (own : Nat → Nat) (o z z' : Nat) : Nat → Nat := fun b => if own b = 0 then (if b < z' ∧ z ≤ b then o else 0) else own b
theorem own2_old {own : Nat → Nat} {o z z' b n : Nat} (hn : n ≠ 0) (e : own b = n) : own2 own o z z' b = n := by
  unfold own2
  rw [if_neg (by omega)]; exact e
theorem own2_lt {own : Nat → Nat} {o z z' b : Nat} (h : ∀ b, own b ≠ 0 → b < z) (hz : z ≤ z') (e : own2 own o z z' b ≠ 0) : b < z' := by
  unfold own2 at e
  by_cases e0 : own b = 0
  · rw [if_pos e0] at e
    by_cases e1 : b < z' ∧ z ≤ b
    · exact e1.1
    · rw [if_neg e1] at e; omega
  · have := h b e0; omega
theorem own2_new {own : Nat → Nat} {o z z' b : Nat} (h : ∀ b, own b ≠ 0 → b < z) (hb : (own b = o ∨ z ≤ b) ∧ b < z') : own2 own o z z' b = o := by
  unfold own2
  by_cases e : own b = 0
  · by_cases h1 : z ≤ b
    · rw [if_pos e, if_pos ⟨hb.2, h1⟩]
    · rcases hb.1 with e' | e'
      · rw [if_pos e]
        rw [if_neg (by omega)]
        omega
      · omega
  · rw [if_neg e]
    rcases hb.1 with e' | e'
    · exact e'
    · have := h b e; omega
theorem own2_K {own : Nat → Nat} {o z z' b : Nat} (e : own b = 0) (hb : b < z) : own2 own o z z' b = 0 := by
  unfold own2
  rw [if_pos e, if_neg (by omega)]

/-- The desk has taken a step. -/
theorem BkAt.deskStep {own : Nat → Nat} {w w' : World} {p d : Nat} {D D' : Dk} {E : Bk} {ps : Nat → Nat} {vs : Value} {vx vw : Nat → Value} (h : BkAt own w p d D E ps vs vx vw) (h2K : ∀ b, K b → own b = 0 ∧ b < w0.heap.size) (hk : Keeps K w0 w) (hd : DeskStep (fun b => own b = 1) w w' d D') : BkSt K w0 w' p d D' E ps := by
  obtain ⟨F', h1, h2, h3⟩ := hd
  have hkeep : ∀ b, own b ≠ 0 → own b ≠ 1 → w'.heap[b]? = w.heap[b]? := fun b h0 h1 => h3.block b (h.lt b h0) h1
  have hflt : ∀ b, F' b → b < w'.heap.size := by
    obtain ⟨vt, vk, rs, hin⟩ := h1
    exact hin.flt
  refine ⟨own2 own 1 w.heap.size w'.heap.size, vs, vx, vw, ?_, fun b e => ⟨own2_K (h2K b e).1 (Nat.lt_of_lt_of_le (h2K b e).2 hk.size), (h2K b e).2⟩, hk.fr h3 (fun b e => (h2K b e).2) (fun b e e' => by have := (h2K b e).1; omega)⟩
  refine ⟨(hkeep p (by rw [h.op]; omega) (by rw [h.op]; omega)).trans h.blk, own2_old (by omega) h.op, ownsRow_block h.row (fun b e => hkeep b (by rw [h.ors b e]; omega) (by rw [h.ors b e]; omega)), fun b e => own2_old (by omega) (h.ors b e), ?_, fun i hi => ?_, fun b e => own2_lt h.lt h3.size e, h.few⟩
  · exact h1.mono (fun b hb => own2_new h.lt ⟨h2 b hb, hflt b hb⟩) (fun b e => own2_lt h.lt h3.size (by rw [e]; omega))
  · exact ((h.page i hi).keep (w' := w') (fun b e => hkeep b (by omega) (by omega))).mono (fun b e => own2_old (by omega) e)

/-- A page has taken a step. -/
theorem BkAt.pageStep {own : Nat → Nat} {w w' : World} {p d i : Nat} {D : Dk} {E : Bk} {ps : Nat → Nat} {vs : Value} {vx vw : Nat → Value} {g' : Pg} {vx' vw' : Value} (h : BkAt own w p d D E ps vs vx vw) (hi : i < E.pg.length)
    (hs : PgAt (fun b => (own b = 2 + i ∨ w.heap.size ≤ b) ∧ b < w'.heap.size) w' (ps i) g' vx' vw') (hf : Fr (fun b => own b = 2 + i) w w') (h2K : ∀ b, K b → own b = 0 ∧ b < w0.heap.size) (hk : Keeps K w0 w) : BkSt K w0 w' p d D { E with pg := E.pg.set i g' } ps := by
  have hm := h.few
  have hkeep : ∀ b, own b ≠ 0 → own b ≠ 2 + i → w'.heap[b]? = w.heap[b]? := fun b h0 h1 => hf.block b (h.lt b h0) h1
  refine ⟨own2 own (2 + i) w.heap.size w'.heap.size, vs, fun j => if j = i then vx' else vx j, fun j => if j = i then vw' else vw j, ?_, fun b e => ⟨own2_K (h2K b e).1 (Nat.lt_of_lt_of_le (h2K b e).2 hk.size), (h2K b e).2⟩, hk.fr hf (fun b e => (h2K b e).2) (fun b e e' => by have := (h2K b e).1; omega)⟩
  refine ⟨(hkeep p (by rw [h.op]; omega) (by rw [h.op]; omega)).trans h.blk, own2_old (by omega) h.op, ?_, fun b e => own2_old (by omega) (h.ors b e), ?_, fun j hj => ?_, fun b e => own2_lt h.lt hf.size e, by simpa using h.few⟩
  · simp only [List.length_set]
    exact ownsRow_block h.row (fun b e => hkeep b (by rw [h.ors b e]; omega) (by rw [h.ors b e]; omega))
  · exact (h.desk.keep hf.size (fun b e => hkeep b (by omega) (by omega))).mono (fun b e => own2_old (by omega) e) (fun b e => own2_lt h.lt hf.size (by rw [e]; omega))
  · simp only [List.length_set] at hj
    by_cases e : j = i
    · subst e
      have e1 : (E.pg.set j g').getD j Pg.none = g' := by simp [List.getD, hj]
      simp only [if_true]
      rw [e1]
      exact hs.mono (fun b hb => own2_new h.lt hb)
    · have e1 : (E.pg.set i g').getD j Pg.none = E.pg.getD j Pg.none := by simp [List.getD, Ne.symm e]
      simp only [if_neg e]
      rw [e1]
      exact ((h.page j hj).keep (w' := w') (fun b e' => hkeep b (by omega) (by omega))).mono (fun b e' => own2_old (by omega) e')

/-- The coins are written down anew. -/
theorem BkSt.setTape {w : World} {p d : Nat} {D : Dk} {E : Bk} {ps : Nat → Nat} (h : BkSt K w0 w p d D E ps) (t : Nat) : BkSt K w0 (w.setCell ⟨p, 2, none⟩ (.int .i64 (t : Int))) p d D { E with tape := t } ps := by
  obtain ⟨own, vs, vx, vw, h, h2K, hk⟩ := h
  have hother : ∀ b, b ≠ p → (w.setCell ⟨p, 2, none⟩ (.int .i64 (t : Int))).heap[b]? = w.heap[b]? := fun b hb => Below.heap_setCell _ _ _ _ hb
  have hne : ∀ b, own b ≠ 1000 → b ≠ p := fun b hb e => hb (by rw [e]; exact h.op)
  have hrow : ∀ b, vs.ownBlock = some b → b ≠ p := by
    intro b e e2
    obtain ⟨c, hc⟩ := ownsRow_blk h.row e
    rw [e2, h.blk] at hc; cases hc
  have hfew := h.few
  refine ⟨own, vs, vx, vw, ⟨?_, h.op, ownsRow_block h.row (fun b e => hother b (hrow b e)), h.ors, h.desk.keep (by rw [setCell_size]; exact Nat.le_refl _) (fun b e => hother b (hne b (by omega))), fun i hi => (h.page i hi).keep (fun b e => hother b (hne b (by have hi' : i < E.pg.length := hi; omega))), fun b e => by rw [setCell_size]; exact h.lt b e, h.few⟩, h2K, ⟨hk.os, hk.tape, hk.output, by rw [setCell_size]; exact hk.size, fun b hb => (hother b (hne b (by rw [(h2K b hb).1]; omega))).trans (hk.block b hb)⟩⟩
  have := blk_set (i := 2) (.int .i64 (t : Int)) h.blk
  simpa using this

/-- A page's count, or its seal, is written down anew. -/
theorem BkSt.setN {w : World} {p d i : Nat} {D : Dk} {E : Bk} {ps : Nat → Nat} (h : BkSt K w0 w p d D E ps) (hi : i < E.pg.length) (n : Nat) : BkSt K w0 (w.setCell ⟨ps i, 0, none⟩ (.int .i64 (n : Int))) p d D { E with pg := E.pg.set i { E.pg.getD i Pg.none with n := n } } ps := by
  obtain ⟨own, vs, vx, vw, h, h2K, hk⟩ := h
  have hp := h.page i hi
  have hf : Fr (fun b => own b = 2 + i) w (w.setCell ⟨ps i, 0, none⟩ (.int .i64 (n : Int))) := (Fr.refl _ w).set (fun _ => hp.gp) _
  have hkI : IntsKept w (w.setCell ⟨ps i, 0, none⟩ (.int .i64 (n : Int))) := IntsKept.set hp.blk (by decide)
  refine h.pageStep hi (vx' := vx i) (vw' := vw i) ⟨?_, ⟨.inl hp.gp, by rw [setCell_size]; exact lt_of_blk' hp.blk⟩, hp.ix.kept hkI, hp.iw.kept hkI, fun b e => ⟨.inl (hp.gx b e), by rw [setCell_size]; exact ownsRow_lt hp.ix e⟩, fun b e => ⟨.inl (hp.gw b e), by rw [setCell_size]; exact ownsRow_lt hp.iw e⟩, hp.ne⟩ hf h2K hk
  have := blk_set (i := 0) (.int .i64 (n : Int)) hp.blk
  simpa using this
theorem BkSt.setSeal {w : World} {p d i : Nat} {D : Dk} {E : Bk} {ps : Nat → Nat} (h : BkSt K w0 w p d D E ps) (hi : i < E.pg.length) (b : Bool) : BkSt K w0 (w.setCell ⟨ps i, 1, none⟩ (.bool b)) p d D { E with pg := E.pg.set i { E.pg.getD i Pg.none with sealed := b } } ps := by
  obtain ⟨own, vs, vx, vw, h, h2K, hk⟩ := h
  have hp := h.page i hi
  have hf : Fr (fun b => own b = 2 + i) w (w.setCell ⟨ps i, 1, none⟩ (.bool b)) := (Fr.refl _ w).set (fun _ => hp.gp) _
  have hkI : IntsKept w (w.setCell ⟨ps i, 1, none⟩ (.bool b)) := IntsKept.set hp.blk (by decide)
  refine h.pageStep hi (vx' := vx i) (vw' := vw i) ⟨?_, ⟨.inl hp.gp, by rw [setCell_size]; exact lt_of_blk' hp.blk⟩, hp.ix.kept hkI, hp.iw.kept hkI, fun b e => ⟨.inl (hp.gx b e), by rw [setCell_size]; exact ownsRow_lt hp.ix e⟩, fun b e => ⟨.inl (hp.gw b e), by rw [setCell_size]; exact ownsRow_lt hp.iw e⟩, hp.ne⟩ hf h2K hk
  have := blk_set (i := 1) (.bool b) hp.blk
  simpa using this

/-- The senders' row of page i, and what an append to it leaves. -/
theorem BkSt.growX {w : World} {p d i : Nat} {D : Dk} {E : Bk} {ps : Nat → Nat} (h : BkSt K w0 w p d D E ps) (hi : i < E.pg.length) : ∃ ao c, w.cell? ⟨ps i, 2, none⟩ = some (.slice ao (E.pg.getD i Pg.none).snd.length c) ∧ ps i < w.heap.size ∧ (∀ o, w.frozen? ⟨ps i, o, none⟩ = false) ∧ Ints w (.slice ao (E.pg.getD i Pg.none).snd.length c) (E.pg.getD i Pg.none).snd ∧ Value.ownBlock (.slice ao (E.pg.getD i Pg.none).snd.length c) ≠ some (ps i) ∧
    ∀ (o : Obj) (w5 : World) (g5 cap5 : Nat) (x : Int), w5.ownsRow 0 3 1 (.slice (some ⟨g5, 0, none⟩) ((E.pg.getD i Pg.none).snd.length + 1) cap5) ((E.pg.getD i Pg.none).snd.length + 1) (ints ((E.pg.getD i Pg.none).snd ++ [x])) → (w.alloc o).grownBy w5 (Value.ownBlock (.slice ao (E.pg.getD i Pg.none).snd.length c)) → (Value.ownBlock (.slice ao (E.pg.getD i Pg.none).snd.length c) = some g5 ∨ w.heap.size ≤ g5) →
      BkSt K w0 (w5.setCell ⟨ps i, 2, none⟩ (.slice (some ⟨g5, 0, none⟩) ((E.pg.getD i Pg.none).snd.length + 1) cap5)) p d D { E with pg := E.pg.set i { E.pg.getD i Pg.none with snd := (E.pg.getD i Pg.none).snd ++ [x] } } ps := by
  obtain ⟨own, vs, vx, vw, h, h2K, hk⟩ := h
  have hp := h.page i hi
  obtain ⟨ao, c, ev, _⟩ := hp.ix.form
  have hne : Value.ownBlock (vx i) ≠ some (ps i) := by
    intro e
    obtain ⟨c', hc'⟩ := hp.ix.kind e
    rw [hp.blk] at hc'; cases hc'
  have hpz := lt_of_blk' hp.blk
  refine ⟨ao, c, ?_, hpz, ?_, ?_, ?_, ?_⟩
  · have := (blk4 hp.blk).2.2.1
    rw [ev] at this
    exact this
  · exact (blk4 hp.blk).2.2.2.2
  · rw [← ev]; exact hp.ix
  · rw [← ev]; exact hne
  · intro o w5 g5 cap5 x hown hgrow hat
    rw [← ev] at hgrow hat
    have hz5 : w.heap.size ≤ w5.heap.size := by have := hgrow.size; simp at this; omega
    have hkeep : ∀ b, b < w.heap.size → Value.ownBlock (vx i) ≠ some b → w5.heap[b]? = w.heap[b]? := fun b hb hv => by
      rw [hgrow.block b (by simp; omega) (fun e => hv e.symm), Below.heap_alloc _ _ _ hb]
    have hg5 : g5 ≠ ps i := by
      intro e
      obtain ⟨c', hc'⟩ := ownsRow_blk hown (g := g5) rfl
      rw [e, hkeep _ hpz hne, hp.blk] at hc'; cases hc'
    have hlen : ((E.pg.getD i Pg.none).snd ++ [x]).length = (E.pg.getD i Pg.none).snd.length + 1 := by simp
    have hvw : ∀ b, Value.ownBlock (vw i) = some b → b ≠ ps i := by
      intro b e e2
      obtain ⟨c', hc'⟩ := hp.iw.kind e
      rw [e2, hp.blk] at hc'; cases hc'
    have hI2 : Ints (w5.setCell ⟨ps i, 2, none⟩ (.slice (some ⟨g5, 0, none⟩) ((E.pg.getD i Pg.none).snd.length + 1) cap5)) (.slice (some ⟨g5, 0, none⟩) ((E.pg.getD i Pg.none).snd.length + 1) cap5) ((E.pg.getD i Pg.none).snd ++ [x]) := by
      unfold Ints
      rw [hlen]
      exact ownsRow_block hown (fun b e => by simp [Value.ownBlock] at e; subst e; exact Below.heap_setCell _ _ _ _ hg5)
    have hI3 : Ints (w5.setCell ⟨ps i, 2, none⟩ (.slice (some ⟨g5, 0, none⟩) ((E.pg.getD i Pg.none).snd.length + 1) cap5)) (vw i) (E.pg.getD i Pg.none).seq := hp.iw.block (fun b e => by
      rw [Below.heap_setCell _ _ _ _ (hvw b e)]
      exact hkeep b (ownsRow_lt hp.iw e) (fun e2 => hp.ne b e2 e))
    have hf : Fr (fun b => own b = 2 + i) w (w5.setCell ⟨ps i, 2, none⟩ (.slice (some ⟨g5, 0, none⟩) ((E.pg.getD i Pg.none).snd.length + 1) cap5)) := by
      have hf0 : Fr (fun b => own b = 2 + i) w w5 := ⟨hgrow.os, hgrow.tape, hgrow.output, hz5, fun b hb hn => hkeep b hb (fun e => hn (hp.gx b e))⟩
      exact hf0.set (fun _ => hp.gp) _
    have hgv : ∀ b, Value.ownBlock (vw i) = some b → b ≠ g5 := by
      intro b e e2
      rcases hat with e3 | e3
      · rw [e2] at e; exact hp.ne _ e3 e
      · have := ownsRow_lt hp.iw e; omega
    refine h.pageStep hi (vx' := .slice (some ⟨g5, 0, none⟩) ((E.pg.getD i Pg.none).snd.length + 1) cap5) (vw' := vw i) ⟨?_, ⟨.inl hp.gp, by rw [setCell_size]; omega⟩, hI2, hI3, fun b e => ⟨(by simp [Value.ownBlock] at e; subst e; exact hat.imp (fun e => hp.gx _ e) id), (by simp [Value.ownBlock] at e; subst e; rw [setCell_size]; exact ownsRow_lt hown rfl)⟩, fun b e => ⟨.inl (hp.gw b e), by rw [setCell_size]; exact Nat.lt_of_lt_of_le (ownsRow_lt hp.iw e) hz5⟩, fun b e e2 => (by simp [Value.ownBlock] at e; subst e; exact hgv _ e2 rfl)⟩ hf h2K hk
    have := blk_set (i := 2) (.slice (some ⟨g5, 0, none⟩) ((E.pg.getD i Pg.none).snd.length + 1) cap5) ((hkeep _ hpz hne).trans hp.blk)
    simpa using this

/-- The senders' row of page i, and what an append to it leaves. -/
theorem BkSt.growW {w : World} {p d i : Nat} {D : Dk} {E : Bk} {ps : Nat → Nat} (h : BkSt K w0 w p d D E ps) (hi : i < E.pg.length) : ∃ ao c, w.cell? ⟨ps i, 3, none⟩ = some (.slice ao (E.pg.getD i Pg.none).seq.length c) ∧ ps i < w.heap.size ∧ (∀ o, w.frozen? ⟨ps i, o, none⟩ = false) ∧ Ints w (.slice ao (E.pg.getD i Pg.none).seq.length c) (E.pg.getD i Pg.none).seq ∧ Value.ownBlock (.slice ao (E.pg.getD i Pg.none).seq.length c) ≠ some (ps i) ∧
    ∀ (o : Obj) (w5 : World) (g5 cap5 : Nat) (x : Int), w5.ownsRow 0 3 1 (.slice (some ⟨g5, 0, none⟩) ((E.pg.getD i Pg.none).seq.length + 1) cap5) ((E.pg.getD i Pg.none).seq.length + 1) (ints ((E.pg.getD i Pg.none).seq ++ [x])) → (w.alloc o).grownBy w5 (Value.ownBlock (.slice ao (E.pg.getD i Pg.none).seq.length c)) → (Value.ownBlock (.slice ao (E.pg.getD i Pg.none).seq.length c) = some g5 ∨ w.heap.size ≤ g5) →
      BkSt K w0 (w5.setCell ⟨ps i, 3, none⟩ (.slice (some ⟨g5, 0, none⟩) ((E.pg.getD i Pg.none).seq.length + 1) cap5)) p d D { E with pg := E.pg.set i { E.pg.getD i Pg.none with seq := (E.pg.getD i Pg.none).seq ++ [x] } } ps := by
  obtain ⟨own, vs, vx, vw, h, h2K, hk⟩ := h
  have hp := h.page i hi
  obtain ⟨ao, c, ev, _⟩ := hp.iw.form
  have hne : Value.ownBlock (vw i) ≠ some (ps i) := by
    intro e
    obtain ⟨c', hc'⟩ := hp.iw.kind e
    rw [hp.blk] at hc'; cases hc'
  have hpz := lt_of_blk' hp.blk
  refine ⟨ao, c, ?_, hpz, ?_, ?_, ?_, ?_⟩
  · have := (blk4 hp.blk).2.2.2.1
    rw [ev] at this
    exact this
  · exact (blk4 hp.blk).2.2.2.2
  · rw [← ev]; exact hp.iw
  · rw [← ev]; exact hne
  · intro o w5 g5 cap5 x hown hgrow hat
    rw [← ev] at hgrow hat
    have hz5 : w.heap.size ≤ w5.heap.size := by have := hgrow.size; simp at this; omega
    have hkeep : ∀ b, b < w.heap.size → Value.ownBlock (vw i) ≠ some b → w5.heap[b]? = w.heap[b]? := fun b hb hv => by
      rw [hgrow.block b (by simp; omega) (fun e => hv e.symm), Below.heap_alloc _ _ _ hb]
    have hg5 : g5 ≠ ps i := by
      intro e
      obtain ⟨c', hc'⟩ := ownsRow_blk hown (g := g5) rfl
      rw [e, hkeep _ hpz hne, hp.blk] at hc'; cases hc'
    have hlen : ((E.pg.getD i Pg.none).seq ++ [x]).length = (E.pg.getD i Pg.none).seq.length + 1 := by simp
    have hvw : ∀ b, Value.ownBlock (vx i) = some b → b ≠ ps i := by
      intro b e e2
      obtain ⟨c', hc'⟩ := hp.ix.kind e
      rw [e2, hp.blk] at hc'; cases hc'
    have hI2 : Ints (w5.setCell ⟨ps i, 3, none⟩ (.slice (some ⟨g5, 0, none⟩) ((E.pg.getD i Pg.none).seq.length + 1) cap5)) (.slice (some ⟨g5, 0, none⟩) ((E.pg.getD i Pg.none).seq.length + 1) cap5) ((E.pg.getD i Pg.none).seq ++ [x]) := by
      unfold Ints
      rw [hlen]
      exact ownsRow_block hown (fun b e => by simp [Value.ownBlock] at e; subst e; exact Below.heap_setCell _ _ _ _ hg5)
    have hI3 : Ints (w5.setCell ⟨ps i, 3, none⟩ (.slice (some ⟨g5, 0, none⟩) ((E.pg.getD i Pg.none).seq.length + 1) cap5)) (vx i) (E.pg.getD i Pg.none).snd := hp.ix.block (fun b e => by
      rw [Below.heap_setCell _ _ _ _ (hvw b e)]
      exact hkeep b (ownsRow_lt hp.ix e) (fun e2 => hp.ne b e e2))
    have hf : Fr (fun b => own b = 2 + i) w (w5.setCell ⟨ps i, 3, none⟩ (.slice (some ⟨g5, 0, none⟩) ((E.pg.getD i Pg.none).seq.length + 1) cap5)) := by
      have hf0 : Fr (fun b => own b = 2 + i) w w5 := ⟨hgrow.os, hgrow.tape, hgrow.output, hz5, fun b hb hn => hkeep b hb (fun e => hn (hp.gw b e))⟩
      exact hf0.set (fun _ => hp.gp) _
    have hgv : ∀ b, Value.ownBlock (vx i) = some b → b ≠ g5 := by
      intro b e e2
      rcases hat with e3 | e3
      · rw [e2] at e; exact hp.ne _ e e3
      · have := ownsRow_lt hp.ix e; omega
    refine h.pageStep hi (vx' := vx i) (vw' := .slice (some ⟨g5, 0, none⟩) ((E.pg.getD i Pg.none).seq.length + 1) cap5) ⟨?_, ⟨.inl hp.gp, by rw [setCell_size]; omega⟩, hI3, hI2, fun b e => ⟨.inl (hp.gx b e), by rw [setCell_size]; exact Nat.lt_of_lt_of_le (ownsRow_lt hp.ix e) hz5⟩, fun b e => ⟨(by simp [Value.ownBlock] at e; subst e; exact hat.imp (fun e => hp.gw _ e) id), (by simp [Value.ownBlock] at e; subst e; rw [setCell_size]; exact ownsRow_lt hown rfl)⟩, fun b e e2 => (by simp [Value.ownBlock] at e2; subst e2; exact hgv _ e rfl)⟩ hf h2K hk
    have := blk_set (i := 3) (.slice (some ⟨g5, 0, none⟩) ((E.pg.getD i Pg.none).seq.length + 1) cap5) ((hkeep _ hpz hne).trans hp.blk)
    simpa using this

theorem ptrs_more (ps : Nat → Nat) (m s : Nat) : ptrs (psOpen ps m s) (m + 1) = ptrs ps m ++ [.pointer (some ⟨s, 0, none⟩)] := ptrs_open ps m s
/-- A page more. -/
theorem BkAt.push {own : Nat → Nat} {w wx w2 : World} {p d q g2 cap2 : Nat} {D : Dk} {E : Bk} {ps : Nat → Nat} {vs : Value} {vx vw : Nat → Value} (h : BkAt own w p d D E ps vs vx vw) (hm : E.pg.length < 8) (h2K : ∀ b, K b → own b = 0 ∧ b < w0.heap.size) (hk : Keeps K w0 w)
    (hx : Below w.heap.size w wx) (hq : w.heap.size ≤ q) (hs : wx.heap[q]? = some (.cells #[.int .i64 0, .bool false, .slice none 0 0, .slice none 0 0] 141 (0, 0)))
    (hown : w2.ownsRow 0 139 1 (.slice (some ⟨g2, 0, none⟩) (E.pg.length + 1) cap2) (E.pg.length + 1) (ptrs ps E.pg.length ++ [.pointer (some ⟨q, 0, none⟩)])) (hgrow : wx.grownBy w2 vs.ownBlock) (hat : vs.ownBlock = some g2 ∨ w.heap.size ≤ g2) :
    BkSt K w0 (w2.setCell ⟨p, 3, none⟩ (.slice (some ⟨g2, 0, none⟩) (E.pg.length + 1) cap2)) p d D { E with pg := E.pg ++ [Pg.none] } (psOpen ps E.pg.length q) := by
  have hpz := lt_of_blk' h.blk
  have hz2 : wx.heap.size ≤ w2.heap.size := hgrow.size
  have hzx := hx.size
  have hqz := lt_of_blk' hs
  have hvp : ∀ b, vs.ownBlock = some b → b ≠ p := by
    intro b e e'
    obtain ⟨c, hc⟩ := ownsRow_blk h.row e
    rw [e', h.blk] at hc; cases hc
  have hvz : ∀ b, vs.ownBlock = some b → b < w.heap.size := fun b e => ownsRow_lt h.row e
  have hg2p : g2 ≠ p := by
    rcases hat with e | e
    · exact hvp _ e
    · omega
  have hq2 : w2.heap[q]? = some (.cells #[.int .i64 0, .bool false, .slice none 0 0, .slice none 0 0] 141 (0, 0)) := (hgrow.block q hqz (fun e => by have := hvz _ e.symm; omega)).trans hs
  have hg2q : g2 ≠ q := by
    intro e
    obtain ⟨c, hc⟩ := ownsRow_blk hown (g := g2) rfl
    rw [e, hq2] at hc; cases hc
  have hkeep : ∀ b, b < w.heap.size → b ≠ p → vs.ownBlock ≠ some b → (w2.setCell ⟨p, 3, none⟩ (.slice (some ⟨g2, 0, none⟩) (E.pg.length + 1) cap2)).heap[b]? = w.heap[b]? := by
    intro b hb hp hv
    rw [Below.heap_setCell _ _ _ _ hp, hgrow.block b (by omega) (fun e => hv e.symm), hx.block b hb]
  have hkeepo : ∀ b, own b ≠ 0 → own b ≠ 1000 → (w2.setCell ⟨p, 3, none⟩ (.slice (some ⟨g2, 0, none⟩) (E.pg.length + 1) cap2)).heap[b]? = w.heap[b]? := fun b e0 e1 =>
    hkeep b (h.lt b e0) (fun e => by subst e; exact e1 h.op) (fun e => e1 (h.ors b e))
  have hold : ∀ b n, n ≠ 0 → own b = n → (if own b = 0 then (if b = q then 2 + E.pg.length else if b = g2 then 1000 else 0) else own b) = n := fun b n hn e => by rw [if_neg (by omega)]; exact e
  have hnone : ∀ b, w.heap.size ≤ b → own b = 0 := fun b hb => Decidable.byContradiction fun hn => by have := h.lt b hn; omega
  have hlt : ∀ b, (if own b = 0 then (if b = q then 2 + E.pg.length else if b = g2 then 1000 else 0) else own b) ≠ 0 → b < w2.heap.size := by
    intro b e
    by_cases e0 : own b = 0
    · rw [if_pos e0] at e
      by_cases e1 : b = q
      · omega
      · rw [if_neg e1] at e
        by_cases e2 : b = g2
        · subst e2; exact ownsRow_lt hown rfl
        · rw [if_neg e2] at e; omega
    · have := h.lt b e0; omega
  have hl1 : (E.pg ++ [Pg.none]).length = E.pg.length + 1 := by simp
  refine ⟨fun b => if own b = 0 then (if b = q then 2 + E.pg.length else if b = g2 then 1000 else 0) else own b, .slice (some ⟨g2, 0, none⟩) (E.pg.length + 1) cap2, fun j => if j = E.pg.length then .slice none 0 0 else vx j, fun j => if j = E.pg.length then .slice none 0 0 else vw j, ⟨?_, hold p 1000 (by omega) h.op, ?_, ?_, ?_, ?_, fun b e => by rw [setCell_size]; exact hlt b e, by show (E.pg ++ [Pg.none]).length ≤ 8; omega⟩, fun b e => ⟨?_, (h2K b e).2⟩, ?_⟩
  · have hq9 : w2.heap[p]? = some (bkBlk d vs E) := by
      rw [hgrow.block p (by omega) (fun e => hvp p e.symm rfl), hx.block p hpz]
      exact h.blk
    have := blk_set (i := 3) (.slice (some ⟨g2, 0, none⟩) (E.pg.length + 1) cap2) hq9
    simpa using this
  · show World.ownsRow _ _ _ _ _ (E.pg ++ [Pg.none]).length (ptrs _ (E.pg ++ [Pg.none]).length)
    rw [hl1, ptrs_more]
    exact ownsRow_block hown (fun b e => by simp [Value.ownBlock] at e; subst e; exact Below.heap_setCell _ _ _ _ hg2p)
  · intro b e
    simp [Value.ownBlock] at e
    subst e
    rcases hat with e | e
    · exact hold _ _ (by omega) (h.ors _ e)
    · rw [if_pos (hnone _ (by omega)), if_neg hg2q, if_pos rfl]
  · exact (h.desk.keep (by rw [setCell_size]; omega) (fun b e => hkeepo b (by omega) (by omega))).mono (fun b e => hold _ _ (by omega) e) (fun b e => by rw [setCell_size]; exact hlt b (by rw [e]; omega))
  · intro j hj
    have hj2 : j < E.pg.length + 1 := by rw [← hl1]; exact hj
    by_cases e : j = E.pg.length
    · subst e
      have e1 : (E.pg ++ [Pg.none]).getD E.pg.length Pg.none = Pg.none := by simp [List.getD]
      simp only [psOpen, if_true]
      rw [e1]
      refine ⟨?_, ?_, Ints.nil _, Ints.nil _, fun b e => by simp [Value.ownBlock] at e, fun b e => by simp [Value.ownBlock] at e, fun b e => by simp [Value.ownBlock] at e⟩
      · rw [Below.heap_setCell _ _ _ _ (show q ≠ p by omega)]
        exact hq2
      · show (if own q = 0 then _ else _) = _
        rw [if_pos (hnone _ hq), if_pos rfl]
    · have hj' : j < E.pg.length := by omega
      have e1 : (E.pg ++ [Pg.none]).getD j Pg.none = E.pg.getD j Pg.none := by simp [List.getD, List.getElem?_append, hj']
      simp only [psOpen, if_neg e]
      rw [e1]
      have hfew := h.few
      exact ((h.page j hj').keep (w' := w2.setCell ⟨p, 3, none⟩ (.slice (some ⟨g2, 0, none⟩) (E.pg.length + 1) cap2)) (fun b e' => hkeepo b (by omega) (by omega))).mono (fun b e' => hold _ _ (by omega) e')
  · have e1 := h2K b e
    have := hk.size
    have hvb : b ≠ g2 := by
      rcases hat with e2 | e2
      · intro e3; subst e3; have := h.ors _ e2; omega
      · omega
    show (if own b = 0 then _ else _) = 0
    rw [if_pos e1.1, if_neg (by omega), if_neg hvb]
  · refine ⟨hgrow.os.trans (hx.os.trans hk.os), hgrow.tape.trans (hx.tape.trans hk.tape), hgrow.output.trans (hx.output.trans hk.output), by rw [setCell_size]; have := hk.size; omega, fun b e => ?_⟩
    have e1 := h2K b e
    have := hk.size
    rw [hkeep b (by omega) (fun e2 => by subst e2; have := h.op; omega) (fun e2 => by have := h.ors b e2; omega)]
    exact hk.block b e

end Go.Proofs.Ytklicjbpjigfdab

/- DERIVED. The small walks of the book: page, took, short, count, about. -/
namespace Go.Proofs.Ytklicjbpjigfdab
open Go.RowKit
attribute [local go_sem ↓] Go.wp_at_zero Go.wp_at_succ
variable {K : Nat → Prop} {w0 : World}

theorem BkSt.facts {w : World} {p d : Nat} {D : Dk} {E : Bk} {ps : Nat → Nat} (h : BkSt K w0 w p d D E ps) : ∃ ao c, w.cell? ⟨p, 0, none⟩ = some (.pointer (some ⟨d, 0, none⟩)) ∧ w.cell? ⟨p, 1, none⟩ = some (.int .i64 (E.room : Int)) ∧ w.cell? ⟨p, 2, none⟩ = some (.int .i64 (E.tape : Int)) ∧ w.cell? ⟨p, 3, none⟩ = some (.slice ao E.pg.length c) ∧ p < w.heap.size ∧ (∀ o, w.frozen? ⟨p, o, none⟩ = false) ∧
    (∀ i, i < E.pg.length → ∃ g, ao = some ⟨g, 0, none⟩ ∧ g < w.heap.size ∧ w.cell? ⟨g, i, none⟩ = some (.pointer (some ⟨ps i, 0, none⟩))) := by
  obtain ⟨own, vs, vx, vw, h, _⟩ := h
  obtain ⟨c0, c1, c2, c3, cz⟩ := blk4 h.blk
  have hpz := lt_of_blk' h.blk
  have hr := h.row
  rcases h.row.2 with ⟨e, hn⟩ | ⟨g, cap, cur, e, hg, hh, hnc, hcm, hcs, ht⟩
  · rw [e] at c3
    refine ⟨none, 0, c0, c1, c2, by rw [hn]; exact c3, hpz, cz, fun i hi => by omega⟩
  · rw [e] at c3 hr
    refine ⟨some ⟨g, 0, none⟩, cap, c0, c1, c2, c3, hpz, cz, fun i hi => ⟨g, rfl, ownsRow_lt hr rfl, ?_⟩⟩
    exact ownsRow_cell hr (by simp [ptrs, hi])
theorem BkSt.pgFacts {w : World} {p d i : Nat} {D : Dk} {E : Bk} {ps : Nat → Nat} (h : BkSt K w0 w p d D E ps) (hi : i < E.pg.length) : ∃ vx vw, w.cell? ⟨ps i, 0, none⟩ = some (.int .i64 ((E.pg.getD i Pg.none).n : Int)) ∧ w.cell? ⟨ps i, 1, none⟩ = some (.bool (E.pg.getD i Pg.none).sealed) ∧ w.cell? ⟨ps i, 2, none⟩ = some vx ∧ w.cell? ⟨ps i, 3, none⟩ = some vw ∧ Ints w vx (E.pg.getD i Pg.none).snd ∧ Ints w vw (E.pg.getD i Pg.none).seq ∧ ps i < w.heap.size ∧ (∀ o, w.frozen? ⟨ps i, o, none⟩ = false) := by
  obtain ⟨own, vs, vx, vw, h, _⟩ := h
  have hp := h.page i hi
  obtain ⟨c0, c1, c2, c3, cz⟩ := blk4 hp.blk
  exact ⟨vx i, vw i, c0, c1, c2, c3, hp.ix, hp.iw, lt_of_blk' hp.blk, cz⟩
theorem BkSt.desk {w : World} {p d : Nat} {D : Dk} {E : Bk} {ps : Nat → Nat} (h : BkSt K w0 w p d D E ps) : ∃ F, DeskAt F w d D ∧ ∀ w' D', DeskStep F w w' d D' → BkSt K w0 w' p d D' E ps := by
  obtain ⟨own, vs, vx, vw, h, h2K, hk⟩ := h
  exact ⟨_, h.desk, fun w' D' hs => h.deskStep h2K hk hs⟩

theorem page_no (p d : Nat) (s : Int) (D : Dk) (E : Bk) (ps : Nat → Nat) (w : World) (h : BkSt K w0 w p d D E ps) (hs : hasB s E.pg.length = false) :
    Calls Try.prog 82 #[.pointer (some ⟨p, 0, none⟩), .int .i64 s] w fun e w' => e = .returned (.pointer none) ∧ w' = w := by
  obtain ⟨ao, c, c0, c1, c2, c3, hpz, cz, _⟩ := h.facts
  by_cases h0 : s < 0
  · clear hs h
    go_enter Try.func82, Try.ntmps82
    go_wp2
    go_ret
    exact ⟨rfl, rfl⟩
  · have h1 : (E.pg.length : Int) ≤ s := by
      unfold hasB at hs
      simp at hs
      omega
    clear hs h
    generalize E.pg.length = m at *
    go_enter Try.func82, Try.ntmps82
    go_wp2
    go_ret
    exact ⟨rfl, rfl⟩
theorem page_at (p d i : Nat) (D : Dk) (E : Bk) (ps : Nat → Nat) (w : World) (h : BkSt K w0 w p d D E ps) (hi : i < E.pg.length) :
    Calls Try.prog 82 #[.pointer (some ⟨p, 0, none⟩), .int .i64 (i : Int)] w fun e w' => e = .returned (.pointer (some ⟨ps i, 0, none⟩)) ∧ w' = w := by
  obtain ⟨ao, c, c0, c1, c2, c3, hpz, cz, hc⟩ := h.facts
  obtain ⟨g, rfl, hg, hcell⟩ := hc i hi
  have hs1 : (0 : Int) ≤ (i : Int) := by omega
  have hs2 : (i : Int) < (E.pg.length : Int) := by omega
  clear hc h
  generalize E.pg.length = m at *
  go_enter Try.func82, Try.ntmps82
  go_wp2
  go_ret
  exact ⟨rfl, rfl⟩

theorem short_any (p d : Nat) (D : Dk) (E : Bk) (ps : Nat → Nat) (w : World) (h : BkSt K w0 w p d D E ps) (ht : E.tape < 256) :
    Calls Try.prog 83 #[.pointer (some ⟨p, 0, none⟩), .int .i64 7] w fun e w' => e = .returned (.bool true) ∧ w' = w := by
  obtain ⟨ao, c, c0, c1, c2, c3, hpz, cz, hc⟩ := h.facts
  have ht' : decide ((E.tape : Int) < 256) = true := decide_eq_true (by omega)
  clear hc h
  generalize E.tape = t at *
  go_enter Try.func83, Try.ntmps83
  go_wp2
  go_ret
  exact ⟨by simp, rfl⟩

set_option maxHeartbeats 400000 in
theorem bcount_any (p d i : Nat) (D : Dk) (E : Bk) (ps : Nat → Nat) (w : World) (h : BkSt K w0 w p d D E ps) (hi : i < D.sks.length) (hok : (D.sks.getD i Hd.none).Ok) :
    Calls Try.prog 84 #[.pointer (some ⟨p, 0, none⟩), .int .i64 (i : Int), .int .i64 (wsum (D.sks.getD i Hd.none).sk.lv : Int)] w fun e w' => e = .returned (.bool true) ∧ Below w.heap.size w w' := by
  obtain ⟨ao, c, c0, c1, c2, c3, hpz, cz, hc⟩ := h.facts
  obtain ⟨F, hd, _⟩ := h.desk
  have HS := hid (deskSize d D i w hd hi hok)
  generalize wsum (D.sks.getD i Hd.none).sk.lv = n at *
  clear hc h hd
  go_enter Try.func84, Try.ntmps84
  go_wp2_with fail
  refine HS.out.mono ?_
  rintro e w1 ⟨rfl, hb1⟩
  have HB1 := hid hb1
  clear hb1 HS
  go_wp2_with fail
  go_ret
  exact ⟨by simp, HB1.out.alloc HB1.out.size _⟩

theorem about_any (kd A B C : Int) (t : ByteArray) (w : World) :
    Calls Try.prog 27 #[.agg #[.int .i64 kd, .int .i64 A, .int .i64 B, .int .i64 C, .string t]] w fun e w' => e = .returned (.int .i64 (if kd = 2 ∨ kd = 3 ∨ kd = 6 then A else -1)) ∧ Below w.heap.size w w' := by
  have hb : Below w.heap.size w (w.alloc (.cells #[.int .i64 kd, .int .i64 A, .int .i64 B, .int .i64 C, .string t] 67)) := (Below.refl w.heap.size w).alloc (Nat.le_refl _) _
  by_cases h2 : kd = 2
  · subst h2
    go_enter Try.func27, Try.ntmps27
    go_wp2
    go_ret
    exact ⟨by simp, hb⟩
  · have e2 : (kd == 2) = false := by simpa using h2
    by_cases h3 : kd = 3
    · subst h3
      go_enter Try.func27, Try.ntmps27
      go_wp2
      go_ret
      exact ⟨by simp, hb⟩
    · have e3 : (kd == 3) = false := by simpa using h3
      by_cases h6 : kd = 6
      · subst h6
        go_enter Try.func27, Try.ntmps27
        go_wp2
        go_ret
        exact ⟨by simp, hb⟩
      · have e6 : (kd == 6) = false := by simpa using h6
        go_enter Try.func27, Try.ntmps27
        go_wp2
        go_ret
        exact ⟨by simp, hb⟩

end Go.Proofs.Ytklicjbpjigfdab
