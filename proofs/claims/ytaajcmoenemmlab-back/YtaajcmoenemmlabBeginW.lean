/- DERIVED. The walks of open and begin: a desk with three sketches on it. -/
import Derived.Test.YtaajcmoenemmlabStepW
namespace Go.Proofs.Ytaajcmoenemmlab
open Go.RowKit
variable {K : Nat → Prop} {w0 : World}

/-- A side into which nothing came. -/
def Sd.begun (k : Nat) : Sd := { xs := [], ws := [], n := 0, k := k, ones := true, gone := false }
def Wd.opened (W : Wd) (m k : Nat) : Wd := { W with D := { W.D with sks := W.D.sks ++ [Hd.begun k] }, sd := fun j => if j = m then Sd.begun k else W.sd j }
def psOpen (ps : Nat → Nat) (m s : Nat) : Nat → Nat := fun j => if j = m then s else ps j

theorem ptrs_open (ps : Nat → Nat) (m s : Nat) : ptrs (psOpen ps m s) (m + 1) = ptrs ps m ++ [.pointer (some ⟨s, 0, none⟩)] := by
  unfold ptrs
  rw [List.range_succ, List.map_append]
  congr 1
  · apply List.map_congr_left
    intro j hj
    have : j < m := by simpa using hj
    simp [psOpen, show j ≠ m by omega]
  · simp [psOpen]

theorem wd_set1 {w : World} {p d : Nat} {vs V : Value} {W : Wd} (h : w.heap[p]? = some (wdBlk d vs W)) : (w.setCell ⟨p, 1, none⟩ V).heap[p]? = some (wdBlk d V W) := by
  have := blk_set (i := 1) V h
  simpa using this

/-- One side more. -/
theorem WdAt.push {own : Nat → Nat} {w wx w2 : World} {p d m k g2 cap2 : Nat} {W : Wd} {ps : Nat → Nat} {vs : Value} {vx vw : Nat → Value} (h : WdAt own w p d m W ps vs vx vw) (hm : m < 3) (h2K : ∀ b, K b → own b = 0 ∧ b < w0.heap.size) (hk : Keeps K w0 w)
    (hx : Below w.heap.size w wx) (hs : wx.heap[w.heap.size]? = some (sdBlk (.slice none 0 0) (.slice none 0 0) 0 k true false)) (hxz : wx.heap.size = w.heap.size + 2)
    (hown : w2.ownsRow 0 68 1 (.slice (some ⟨g2, 0, none⟩) (m + 1) cap2) (m + 1) (ptrs ps m ++ [.pointer (some ⟨w.heap.size, 0, none⟩)])) (hgrow : wx.grownBy w2 vs.ownBlock) (hat : vs.ownBlock = some g2 ∨ g2 = w.heap.size + 2) :
    WdSt K w0 (w2.setCell ⟨p, 1, none⟩ (.slice (some ⟨g2, 0, none⟩) (m + 1) cap2)) p d (m + 1) (psOpen ps m w.heap.size) { W with sd := fun j => if j = m then Sd.begun k else W.sd j } := by
  have hpz := lt_of_blk' h.blk
  have hz2 : w.heap.size + 2 ≤ w2.heap.size := by have := hgrow.size; omega
  have hvp : ∀ b, vs.ownBlock = some b → b ≠ p := by
    intro b e e'
    subst e'
    rcases h.row.2 with ⟨e', _⟩ | ⟨g', c', cur, e', _, hh, _⟩
    · rw [e'] at e; simp [Value.ownBlock] at e
    · rw [e'] at e; simp [Value.ownBlock] at e; subst e
      rw [h.blk] at hh; cases hh
  have hvz : ∀ b, vs.ownBlock = some b → b < w.heap.size := fun b e => ownsRow_lt h.row e
  have hg2p : g2 ≠ p := by
    rcases hat with e | e
    · exact hvp _ e
    · omega
  have hg2s : g2 ≠ w.heap.size := by
    rcases hat with e | e
    · have := hvz _ e; omega
    · omega
  have hkeep : ∀ b, b < w.heap.size → b ≠ p → vs.ownBlock ≠ some b → (w2.setCell ⟨p, 1, none⟩ (.slice (some ⟨g2, 0, none⟩) (m + 1) cap2)).heap[b]? = w.heap[b]? := by
    intro b hb hp hv
    rw [Below.heap_setCell _ _ _ _ hp, hgrow.block b (by omega) (fun e => hv e.symm), hx.block b hb]
  have hkeepo : ∀ b, own b ≠ 0 → own b ≠ 1000 → (w2.setCell ⟨p, 1, none⟩ (.slice (some ⟨g2, 0, none⟩) (m + 1) cap2)).heap[b]? = w.heap[b]? := fun b e0 e1 =>
    hkeep b (h.lt b e0) (fun e => by subst e; exact e1 h.op) (fun e => e1 (h.ors b e))
  obtain ⟨vt, vk, rs, hin⟩ := h.desk
  have hin' := hin.keep (w' := w2.setCell ⟨p, 1, none⟩ (.slice (some ⟨g2, 0, none⟩) (m + 1) cap2)) (by rw [setCell_size]; omega) (fun b e => hkeepo b (by omega) (by omega))
  have hold : ∀ b n, n ≠ 0 → own b = n → (if own b = 0 then (if b = w.heap.size then 2 + m else if b = g2 then 1000 else 0) else own b) = n := fun b n hn e => by rw [if_neg (by omega)]; exact e
  have hnone : ∀ b, w.heap.size ≤ b → own b = 0 := fun b hb => Decidable.byContradiction fun hn => by have := h.lt b hn; omega
  refine ⟨fun b => if own b = 0 then (if b = w.heap.size then 2 + m else if b = g2 then 1000 else 0) else own b, .slice (some ⟨g2, 0, none⟩) (m + 1) cap2, fun j => if j = m then .slice none 0 0 else vx j, fun j => if j = m then .slice none 0 0 else vw j, ⟨?_, hold p 1000 (by omega) h.op, ?_, ?_, ?_, ?_, ?_, by omega⟩, fun b e => ⟨?_, (h2K b e).2⟩, ?_⟩
  · refine wd_set1 (vs := vs) ?_
    rw [hgrow.block p (by omega) (fun e => hvp p e.symm rfl), hx.block p hpz]
    exact h.blk
  · rw [ptrs_open]
    exact ownsRow_block hown (fun b e => by simp [Value.ownBlock] at e; subst e; exact Below.heap_setCell _ _ _ _ hg2p)
  · intro b e
    simp [Value.ownBlock] at e
    subst e
    rcases hat with e | e
    · exact hold _ _ (by omega) (h.ors _ e)
    · rw [if_pos (hnone _ (by omega)), if_neg hg2s, if_pos rfl]
  · refine ⟨vt, vk, rs, hin'.blk, hold _ _ (by omega) hin'.fd, hin'.tp, fun b e => hold _ _ (by omega) (hin'.ftp b e), hin'.row, fun b e => hold _ _ (by omega) (hin'.frow b e), hin'.len, fun i hi => (hin'.lv i hi).mono (fun b e _ => hold _ _ (by omega) e), fun i hi => hold _ _ (by omega) (hin'.flv i hi), fun b e => ?_⟩
    rw [setCell_size]
    by_cases e0 : own b = 0
    · rw [if_pos e0] at e
      by_cases e1 : b = w.heap.size
      · omega
      · rw [if_neg e1] at e
        by_cases e2 : b = g2
        · rw [if_pos e2] at e; omega
        · rw [if_neg e2] at e; omega
    · have := h.lt b e0; omega
  · intro j hj
    by_cases e : j = m
    · subst e
      simp only [psOpen, if_true]
      refine ⟨?_, ?_, Ints.nil _, ?_, fun b e => by simp [Value.ownBlock] at e, fun b e => by simp [Value.ownBlock] at e, fun b e => by simp [Value.ownBlock] at e, rfl⟩
      · rw [Below.heap_setCell _ _ _ _ (by show w.heap.size ≠ p; omega), hgrow.block _ (by omega) (fun e => by have := hvz _ e.symm; omega)]
        exact hs
      · show (if own w.heap.size = 0 then _ else _) = _
        rw [if_pos (hnone _ (Nat.le_refl _)), if_pos rfl]
      · exact Ints.nil _
    · simp only [psOpen, if_neg e]
      have hj' : j < m := by omega
      have hs := (h.side j hj').keep (w' := w2.setCell ⟨p, 1, none⟩ (.slice (some ⟨g2, 0, none⟩) (m + 1) cap2)) (fun b e' _ => hkeepo b (by omega) (by omega))
      exact ⟨hs.blk, hold _ _ (by omega) hs.gp, hs.ix, hs.iw, fun b e => hold _ _ (by omega) (hs.gx b e), fun b e => hold _ _ (by omega) (hs.gw b e), hs.ne, hs.len⟩
  · intro b e
    rw [setCell_size]
    by_cases e0 : own b = 0
    · rw [if_pos e0] at e
      by_cases e1 : b = w.heap.size
      · omega
      · rw [if_neg e1] at e
        by_cases e2 : b = g2
        · subst e2; exact ownsRow_lt hown rfl
        · rw [if_neg e2] at e; omega
    · have := h.lt b e0; omega
  · have e1 := h2K b e
    have := hk.size
    have hvb : b ≠ g2 := by
      rcases hat with e2 | e2
      · intro e3; subst e3; have := h.ors _ e2; omega
      · omega
    show (if own b = 0 then _ else _) = 0
    rw [if_pos e1.1, if_neg (by omega), if_neg hvb]
  · refine ⟨hgrow.os.trans (hx.os.trans hk.os), hgrow.tape.trans (hx.tape.trans hk.tape), hgrow.output.trans (hx.output.trans hk.output), by rw [setCell_size]; have := hk.size; omega, fun b e => ?_⟩
    have e1 := h2K b e
    have := hk.size
    rw [hkeep b (by omega) (fun e2 => by subst e2; have := h.op; omega) (fun e2 => by have := h.ors b e2; omega)]
    exact hk.block b e

theorem Try.infoSideP : (Try.prog.info? 68).map (fun i => (i.zero, i.size, i.bytes)) = some (some (.pointer none), 1, 8) := by kernel_rfl
theorem one_ptr (x : Option Addr) : ∀ u ∈ [Value.pointer x], u.oneCell' = true := by
  intro u hu; simp at hu; subst hu; rfl

set_option maxHeartbeats 1000000 in
set_option maxRecDepth 100000 in
theorem wopen_any (p d m k : Nat) (ps : Nat → Nat) (W : Wd) (w : World) (h : WdSt K w0 w p d m ps W) (hm : m < 3) (hk1 : 2 ≤ k) (hk2 : k ≤ 64) (hl : W.D.sks.length = m) (hr : W.D.room = 4) :
    Calls Try.prog 43 #[.pointer (some ⟨p, 0, none⟩), .int .i64 (m : Int), .int .i64 (k : Int)] w fun e w' => e = .returned (.bool true) ∧ ∃ ps', WdSt K w0 w' p d (m + 1) ps' (W.opened m k) := by
  obtain ⟨own, vs, vx, vw, h, h2K, hk⟩ := h
  obtain ⟨c0, c1, c2, c3, c4, c5, c6, cz⟩ := blk7 h.blk
  have HO := hid (open_any (F := fun b => own b = 1) d k W.D w h.desk hk1 hk2 (by omega) (by omega))
  rw [hl] at HO
  have HH := hid h
  have H2 := hid h2K
  have HK := hid hk
  obtain ⟨i0, hi0, hz0, hz1, hz2⟩ := info_parts Try.infoSideP
  clear h h2K hk
  go_enter Try.func43, Try.ntmps43
  go_wp2_with fail
  refine HO.out.mono ?_
  rintro e w1 ⟨rfl, hst⟩
  have hst1 := HH.out.deskStep H2.out HK.out hst
  obtain ⟨own1, vs1, vx1, vw1, h1, h2K1, hk1'⟩ := hst1
  obtain ⟨d0, d1, d2, d3, d4, d5, d6, dz⟩ := blk7 h1.blk
  have hpz := lt_of_blk' h1.blk
  have H1 := hid h1
  have H21 := hid h2K1
  have HK1 := hid hk1'
  have HROW := hid h1.row
  have HVP : Hid (∀ b, vs1.ownBlock = some b → b ≠ p) := by
    intro b e e'
    subst e'
    rcases h1.row.2 with ⟨e', _⟩ | ⟨g', c', cur, e', _, hh, _⟩
    · rw [e'] at e; simp [Value.ownBlock] at e
    · rw [e'] at e; simp [Value.ownBlock] at e; subst e
      rw [h1.blk] at hh; cases hh
  have HBP := hid h1.blk
  obtain ⟨ao, cc, evs⟩ : ∃ ao cc, vs1 = .slice ao m cc := by
    rcases h1.row.2 with ⟨e', e2⟩ | ⟨g', c', cur, e', _⟩
    · exact ⟨none, 0, by rw [e', e2]⟩
    · exact ⟨_, _, e'⟩
  have HVS := hid evs
  rw [evs] at d1 HROW
  clear hst h1 h2K1 hk1' c0 c1 c2 c3 c4 c5 c6 cz evs hl
  go_wp2_with (first | (at_builtin; refine wpList_append_lies _ rfl (.tmp 22) (.tmp 26) 29 rfl 0 68 i0 (.pointer none) 1 8 Try.underlying29 hi0 hz0 hz1 hz2 rfl (by decide) (.slice ao m cc) m (ptrs ps m) rfl ((HROW.out.alloc _).alloc _) ⟨w1.heap.size + 1, 0, none⟩ 1 1 [.pointer (some ⟨w1.heap.size, 0, none⟩)] rfl rfl (one_new' (by simp) _ _) (one_ptr _) (by decide) (by unfold maxLen; omega) (by omega) (Nat.zero_le _) (w1.heap.size + 2) (by simp) ?_; intro g2 cap2 w2 hown2 hgrow2 hat2 hlt2; have hq2 : w2.heap[p]? = _ := (hgrow2.block p (by simp; omega) (fun e => HVP.out p (by rw [HVS.out]; exact e.symm) rfl)).trans ((Below.heap_alloc _ _ p (by simp; omega)).trans ((Below.heap_alloc w1 _ p hpz).trans HBP.out)); obtain ⟨q0, q1, q2, q3, q4, q5, q6, qz⟩ := blk7 hq2; have HO2 := hid hown2; have HG2 := hid hgrow2; have HA2 := hid hat2; clear hq2 hown2 hgrow2 hat2))
  go_ret
  refine ⟨rfl, psOpen ps m w1.heap.size, ?_⟩
  have hg2 := HG2.out
  have ha2 := HA2.out
  rw [← HVS.out] at hg2 ha2
  exact H1.out.push hm H21.out HK1.out (((Below.refl _ _).alloc (Nat.le_refl _) _).alloc (by simp) _) (by rw [Below.heap_alloc _ _ _ (by simp)]; exact heap_alloc_new _ _) (by simp) HO2.out hg2 ha2

/-- The three K out of the raw number. -/
def vOf (k : Int) : Nat → Nat
  | 0 => pickN k 1099511627776
  | n + 1 => vOf k n / 63
def kOf (k : Int) (i : Nat) : Nat := 2 + vOf k i % 63
theorem vOf_le (k : Int) (i : Nat) : vOf k i ≤ 1099511627776 := by
  induction i with
  | zero => have := pickN_lt k (n := 1099511627776) (by omega); simp only [vOf]; omega
  | succ i ih => simp only [vOf]; omega
theorem kOf_bd (k : Int) (i : Nat) : 2 ≤ kOf k i ∧ kOf k i ≤ 64 := by unfold kOf; omega

def Wd.start (coins : ByteArray) : Wd := { D := ⟨4, [], []⟩, sd := fun _ => Sd.begun 0, coins := coins, at_ := 0, used := 0, most := -1, short := false }
/-- The world with the first m sketches. -/
def Wd.first (k : Int) (coins : ByteArray) : Nat → Wd
  | 0 => Wd.start coins
  | m + 1 => (Wd.first k coins m).opened m (kOf k m)
theorem first_len (k : Int) (coins : ByteArray) (m : Nat) : (Wd.first k coins m).D.sks.length = m ∧ (Wd.first k coins m).D.room = 4 := by
  induction m with
  | zero => exact ⟨rfl, rfl⟩
  | succ m ih => simp [Wd.first, Wd.opened, ih.1, ih.2]

set_option maxHeartbeats 1000000 in
set_option maxRecDepth 100000 in
theorem begin_w (k : Int) (coins : ByteArray) (w : World) (h1 : -9223372036854775808 ≤ k) (h2 : k ≤ 9223372036854775807) :
    Calls Try.prog 20 #[.int .i64 k, .string coins] w fun e w' => ∃ p d ps, e = .returned (.pointer (some ⟨p, 0, none⟩)) ∧ WdSt (fun b => b < w.heap.size) w w' p d 3 ps (Wd.first k coins 3) := by
  have HN := hid (new_any 4 w (by omega) (by omega))
  have HP := hid (fun (w' : World) => pick_any k 1099511627776 w' h1 h2 (by omega) (by omega))
  go_enter Try.func20, Try.ntmps20
  go_wp2_with fail
  refine HN.out.mono ?_
  rintro e w1 ⟨rfl, hd, hb1⟩
  have HD := hid hd
  have HB1 := hid hb1
  have hz1 : w.heap.size < w1.heap.size := by
    obtain ⟨_, _, _, hin⟩ := hd
    exact hin.flt _ rfl
  clear hd hb1
  go_wp2_with (first | (go_at_call 7; refine (HP.out _).mono ?_; rintro e w' ⟨rfl, hw⟩; obtain rfl := hw.symm))
  have HST : Hid (WdSt (fun b => b < w.heap.size) w (w1.alloc (wdBlk w.heap.size (.slice none 0 0) (Wd.start coins))) w1.heap.size w.heap.size 0 (fun _ => 0) (Wd.first k coins 0)) := by
    obtain ⟨vt, vk, rs, hin⟩ := HD.out
    have hin' := hin.below ((Below.refl _ _).alloc (Nat.le_refl _) (wdBlk w.heap.size (.slice none 0 0) (Wd.start coins)))
    have hF : ∀ b, b = w.heap.size → (if b = w.heap.size then 1 else if b = w1.heap.size then 1000 else 0) = 1 := fun b e => by rw [if_pos e]
    refine ⟨fun b => if b = w.heap.size then 1 else if b = w1.heap.size then 1000 else 0, .slice none 0 0, fun _ => .slice none 0 0, fun _ => .slice none 0 0, ⟨heap_alloc_new _ _, ?_, World.ownsRow_nil _ _ _ _, fun b e => by simp [Value.ownBlock] at e, ⟨vt, vk, rs, hin'.blk, hF _ hin'.fd, hin'.tp, fun b e => hF b (hin'.ftp b e), hin'.row, fun b e => hF b (hin'.frow b e), hin'.len, fun i hi => (hin'.lv i hi).mono (fun b e _ => hF b e), fun i hi => hF _ (hin'.flv i hi), fun b e => ?_⟩, fun i hi => by omega, fun b e => ?_, by omega⟩, fun b e => ⟨?_, e⟩, ?_⟩
    · rw [if_neg (by omega), if_pos rfl]
    · by_cases e1 : b = w.heap.size
      · simp; omega
      · rw [if_neg e1] at e
        by_cases e2 : b = w1.heap.size
        · rw [if_pos e2] at e; omega
        · rw [if_neg e2] at e; omega
    · by_cases e1 : b = w.heap.size
      · simp; omega
      · rw [if_neg e1] at e
        by_cases e2 : b = w1.heap.size
        · simp; omega
        · rw [if_neg e2] at e; omega
    · show (if b = w.heap.size then 1 else if b = w1.heap.size then 1000 else 0) = 0
      have e9 : b < w.heap.size := e
      rw [if_neg (by omega), if_neg (by omega)]
    · have hb := HB1.out.alloc HB1.out.size (wdBlk w.heap.size (.slice none 0 0) (Wd.start coins))
      exact ⟨hb.os, hb.tape, hb.output, hb.size, hb.block⟩
  clear HN HD
  generalize hpp : w1.heap.size = p at *
  clear hpp HB1
  go_loopw [8, 9] (fun sv si wr => ∃ (m : Nat) (ps : Nat → Nat), m ≤ 3 ∧ si = .int .i64 m ∧ sv = .int .i64 (vOf k m : Int) ∧ Hid (WdSt (fun b => b < w.heap.size) w wr p w.heap.size m ps (Wd.first k coins m))) (fun _ si _ => 3 - (intOf si).toNat)
  case atStart => exact ⟨0, _, Nat.zero_le _, rfl, rfl, HST⟩
  case round =>
    obtain ⟨m, ps, hm, rfl, rfl, Hst⟩ := hrel
    clear HST
    by_cases hlt : m < 3
    · have hl := first_len k coins m
      have hkb := kOf_bd k m
      have HO := hid (wopen_any p w.heap.size m (kOf k m) ps _ wr Hst.out hlt hkb.1 hkb.2 hl.1 hl.2)
      have hvb := vOf_le k m
      have HKE : Hid (kOf k m = 2 + vOf k m % 63) := rfl
      have HVE : Hid (vOf k (m + 1) = vOf k m / 63) := rfl
      have ek : (kOf k m : Int) = 2 + (vOf k m : Int) % 63 := by unfold kOf; omega
      rw [ek] at HO
      generalize vOf k m = v at *
      clear hl hkb ek
      go_wp2_with fail
      refine HO.out.mono ?_
      rintro e w2 ⟨rfl, ps', hst2⟩
      have HS2 := hid hst2
      clear hst2
      go_wp2_with fail
      go_roundw
      case rel => exact ⟨m + 1, ps', by omega, by go_num, by rw [HVE.out]; go_num, HS2⟩
      case measure => simp [intOf]; omega
    · have hm3 : m = 3 := by omega
      subst hm3
      go_wp2_with fail
      go_ret
      exact ⟨p, w.heap.size, ps, rfl, Hst.out⟩

end Go.Proofs.Ytaajcmoenemmlab
