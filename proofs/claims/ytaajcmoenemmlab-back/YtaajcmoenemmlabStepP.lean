/- DERIVED. What a call does to the desk in memory: lemmas outside the walks. -/
import Derived.Test.YtaajcmoenemmlabMt
namespace Go.Proofs.Ytaajcmoenemmlab
open Go.RowKit
variable {F : Nat → Prop}

/-- The desk is now D', in blocks of its own or new ones; nothing but its own blocks has turned. -/
def DeskStep (F : Nat → Prop) (w w' : World) (d : Nat) (D' : Dk) : Prop := ∃ F', DeskAt F' w' d D' ∧ (∀ b, F' b → F b ∨ w.heap.size ≤ b) ∧ Fr F w w'

theorem DeskStep.of_below {w w' : World} {d : Nat} {D : Dk} (h : DeskAt F w d D) (hb : Below w.heap.size w w') : DeskStep F w w' d D := ⟨F, h.below hb, fun _ h => .inl h, Fr.below hb⟩
theorem DeskStep.trans {w w1 w2 : World} {d : Nat} {D1 D2 : Dk} (h : DeskStep F w w1 d D1) (k : ∀ F', DeskAt F' w1 d D1 → DeskStep F' w1 w2 d D2) : DeskStep F w w2 d D2 := by
  obtain ⟨F1, h1, h2, h3⟩ := h
  obtain ⟨F2, k1, k2, k3⟩ := k F1 h1
  refine ⟨F2, k1, fun b hb => ?_, h3.trans k3 (fun x hx hF => ?_)⟩
  · rcases k2 b hb with h | h
    · exact h2 b h
    · exact .inr (Nat.le_trans h3.size h)
  · rcases h2 x hF with h | h
    · exact h
    · omega

theorem fr_undrew {S : Nat → Prop} {w w' : World} (h : Fr S w.drew w') : Fr S w w' := ⟨h.os, h.tape, h.output, h.size, h.block⟩
theorem Fr.alloc {S : Nat → Prop} {w w' : World} (h : Fr S w w') (o : Obj) : Fr S w (w'.alloc o) :=
  ⟨h.os, h.tape, h.output, by have := h.size; simp; omega, fun b hb hn => (Below.heap_alloc _ _ _ (Nat.lt_of_lt_of_le hb h.size)).trans (h.block b hb hn)⟩
theorem settle_used {k : Nat} : ∀ {cs : List Bool} {u : Nat} {L L' : List Lvl} {u' : Nat}, settle k cs u L = some (L', u') → u' ≤ u + cs.length := by
  intro cs
  induction cs with
  | nil => intro u L L' u' h; simp only [settle] at h; split at h <;> simp at h; omega
  | cons c cs ih =>
    intro u L L' u' h
    simp only [settle] at h
    split at h
    · simp at h; simp; omega
    · have := ih h; simp; omega
theorem undrewN {B n : Nat} {w w' : World} (h : Below B (w.drewN n) w') : Below B w w' := ⟨h.os, h.tape, h.output, h.size, h.block⟩
/-- The footprint behind a call. -/
def foot (F : Nat → Prop) (w w' : World) : Nat → Prop := fun b => (F b ∨ w.heap.size ≤ b) ∧ b < w'.heap.size

/-- The tape has turned. -/
theorem DeskIn.retape {w w' : World} {d : Nat} {D : Dk} {vt vk vt' : Value} {rs : List Ref} {t' : List Bool} (h : DeskIn F w d D vt vk rs) (hd : w'.heap[d]? = some (.cells #[.int .i64 (D.room : Int), vt', vk] 64 (0, 0))) (ht : Bools w' vt' t') (hv : ∀ b, vt'.ownBlock = some b → vt.ownBlock = some b ∨ w.heap.size ≤ b)
    (hf : Fr (fun b => b = d ∨ vt.ownBlock = some b) w w') : DeskIn (foot F w w') w' d { D with tape := t' } vt' vk rs := by
  have hkeep : ∀ (b : Nat) (c : Array Value) (t : TypeId) (fr : Nat × Nat), w.heap[b]? = some (.cells c t fr) → t ≠ 64 → t ≠ 4 → w'.heap[b]? = w.heap[b]? := by
    intro b c t fr hb h1 h2
    refine hf.block b (lt_of_blk' hb) (fun e => ?_)
    rcases e with rfl | e
    · rw [h.blk] at hb; cases hb; exact h1 rfl
    · obtain ⟨c', hc'⟩ := h.tp.kind e
      rw [hc'] at hb; cases hb; exact h2 rfl
  have hF : ∀ b, F b → foot F w w' b := fun b hb => ⟨.inl hb, Nat.lt_of_lt_of_le (h.flt b hb) hf.size⟩
  refine ⟨hd, hF d h.fd, ht, fun b e => ⟨?_, ownsRow_lt ht e⟩, ?_, fun b e => hF b (h.frow b e), h.len, fun i hi => ?_, fun i hi => hF _ (h.flv i hi), fun b e => e.2⟩
  · rcases hv b e with e | e
    · exact .inl (h.ftp b e)
    · exact .inr e
  · refine ownsRow_block h.row (fun b e => ?_)
    rcases h.row.2 with ⟨e', _⟩ | ⟨g, cap, cur, e', _, hh, _⟩
    · rw [e'] at e; simp [Value.ownBlock] at e
    · rw [e'] at e; simp [Value.ownBlock] at e; subst e
      exact hkeep _ _ _ _ hh (by decide) (by decide)
  · refine LvAt.mono (LvAt.block (h.lv i hi) (fun b e => ?_)) (fun b hb _ => hF b hb)
    rcases e with e | ⟨c, hc⟩
    · obtain ⟨c, hc⟩ := (h.lv i hi).blk
      subst e
      exact hkeep _ _ _ _ hc (by decide) (by decide)
    · exact hkeep _ _ _ _ hc (by decide) (by decide)

theorem DeskStep.retape {w w' : World} {d : Nat} {D : Dk} {vt vk vt' : Value} {rs : List Ref} {t' : List Bool} (h : DeskIn F w d D vt vk rs) (hd : w'.heap[d]? = some (.cells #[.int .i64 (D.room : Int), vt', vk] 64 (0, 0))) (ht : Bools w' vt' t') (hv : ∀ b, vt'.ownBlock = some b → vt.ownBlock = some b ∨ w.heap.size ≤ b)
    (hf : Fr (fun b => b = d ∨ vt.ownBlock = some b) w w') : DeskStep F w w' d { D with tape := t' } :=
  ⟨foot F w w', ⟨vt', vk, rs, h.retape hd ht hv hf⟩, fun b e => e.1, hf.mono (fun x _ e => by
    rcases e with rfl | e
    · exact h.fd
    · exact h.ftp x e)⟩

/-- A sketch has turned: its four cells are stored. -/
theorem DeskIn.setSk {F G : Nat → Prop} {w : World} {d gk c i : Nat} {D : Dk} {vt : Value} {rs : List Ref} {r : Ref} {sk : Sk} (h : DeskIn F w d D vt (.slice (some ⟨gk, 0, none⟩) D.sks.length c) rs) (hi : i < D.sks.length) (hFG : ∀ b, F b → G b) (hG : ∀ b, G b → b < w.heap.size) (hL : LvAt G w r.g r.cap r.vs sk.lv) (hg : G r.g) :
    DeskIn G ((((w.setCell ⟨gk, i * 5, none⟩ (.int .i64 (sk.k : Int))).setCell ⟨gk, i * 5 + 1, none⟩ (.slice (some ⟨r.g, 0, none⟩) sk.lv.length r.cap)).setCell ⟨gk, i * 5 + 2, none⟩ (.int .i64 sk.lo)).setCell ⟨gk, i * 5 + 3, none⟩ (.int .i64 sk.hi)) d
      { D with sks := D.sks.set i { sk := sk, sealed := (D.sks.getD i Hd.none).sealed } } vt (.slice (some ⟨gk, 0, none⟩) D.sks.length c) (rs.set i r) := by
  obtain ⟨ck, hck⟩ : ∃ cc, w.heap[gk]? = some (.cells cc 58 (0, 0)) := by
    rcases h.row.2 with ⟨e, _⟩ | ⟨g', cap', cur, e, _, hh, _⟩
    · cases e
    · cases e; exact ⟨cur, hh⟩
  have hother : ∀ b, b ≠ gk → ((((w.setCell ⟨gk, i * 5, none⟩ (.int .i64 (sk.k : Int))).setCell ⟨gk, i * 5 + 1, none⟩ (.slice (some ⟨r.g, 0, none⟩) sk.lv.length r.cap)).setCell ⟨gk, i * 5 + 2, none⟩ (.int .i64 sk.lo)).setCell ⟨gk, i * 5 + 3, none⟩ (.int .i64 sk.hi)).heap[b]? = w.heap[b]? := fun b hb => by
    rw [Below.heap_setCell _ _ _ _ hb, Below.heap_setCell _ _ _ _ hb, Below.heap_setCell _ _ _ _ hb, Below.heap_setCell _ _ _ _ hb]
  have hkind : ∀ (b : Nat) (cc : Array Value) (t : TypeId) (fr : Nat × Nat), w.heap[b]? = some (.cells cc t fr) → t ≠ 58 → b ≠ gk := by
    intro b cc t fr hb ht e
    subst e
    rw [hck] at hb; cases hb; exact ht rfl
  have hlvk : ∀ {g cap : Nat} {vs : List Value} {L : List Lvl}, LvAt G w g cap vs L → LvAt G ((((w.setCell ⟨gk, i * 5, none⟩ (.int .i64 (sk.k : Int))).setCell ⟨gk, i * 5 + 1, none⟩ (.slice (some ⟨r.g, 0, none⟩) sk.lv.length r.cap)).setCell ⟨gk, i * 5 + 2, none⟩ (.int .i64 sk.lo)).setCell ⟨gk, i * 5 + 3, none⟩ (.int .i64 sk.hi)) g cap vs L := by
    intro g cap vs L hl
    refine hl.block (fun b e => hother b ?_)
    rcases e with rfl | ⟨cc, hc⟩
    · obtain ⟨cc, hc⟩ := hl.blk; exact hkind _ _ _ _ hc (by decide)
    · exact hkind _ _ _ _ hc (by decide)
  have hrow := (((h.row.stored (i * 5) (.int .i64 (sk.k : Int))).1.stored (i * 5 + 1) (.slice (some ⟨r.g, 0, none⟩) sk.lv.length r.cap)).1.stored (i * 5 + 2) (.int .i64 sk.lo)).1.stored (i * 5 + 3) (.int .i64 sk.hi)
  have hcs := hdCells_set rs D.sks i r { sk := sk, sealed := (D.sks.getD i Hd.none).sealed } h.len hi rfl
  refine ⟨(hother d (hkind _ _ _ _ h.blk (by decide))).trans h.blk, hFG _ h.fd, ownsRow_block h.tp (fun b e => ?_), fun b e => hFG _ (h.ftp b e), ?_, fun b e => hFG _ (h.frow b e), by simp [h.len], fun j hj => ?_, fun j hj => ?_, fun b e => by simp only [setCell_size]; exact hG b e⟩
  · obtain ⟨cc, hc⟩ := h.tp.kind e
    exact hother b (hkind _ _ _ _ hc (by decide))
  · simp only [List.length_set]
    rw [hcs]
    exact hrow.1
  · simp only [List.length_set] at hj
    have hl := h.len
    by_cases e : j = i
    · subst e
      have e1 : (rs.set j r).getD j Ref.none = r := by simp [List.getD, hl, hj]
      have e2 : (D.sks.set j { sk := sk, sealed := (D.sks.getD j Hd.none).sealed }).getD j Hd.none = { sk := sk, sealed := (D.sks.getD j Hd.none).sealed } := by simp [List.getD, hj]
      rw [e1, e2]
      exact hlvk hL
    · have e1 : (rs.set i r).getD j Ref.none = rs.getD j Ref.none := by simp [List.getD, Ne.symm e]
      have e2 : (D.sks.set i { sk := sk, sealed := (D.sks.getD i Hd.none).sealed }).getD j Hd.none = D.sks.getD j Hd.none := by simp [List.getD, Ne.symm e]
      rw [e1, e2]
      exact hlvk ((h.lv j hj).mono (fun b hb _ => hFG b hb))
  · simp only [List.length_set] at hj
    have hl := h.len
    by_cases e : j = i
    · subst e
      have e1 : (rs.set j r).getD j Ref.none = r := by simp [List.getD, hl, hj]
      rw [e1]; exact hg
    · have e1 : (rs.set i r).getD j Ref.none = rs.getD j Ref.none := by simp [List.getD, Ne.symm e]
      rw [e1]; exact hFG _ (h.flv j hj)

set_option maxHeartbeats 400000 in
theorem deskFeed (d : Nat) (D : Dk) (s : ByteArray) (w : World) (h : DeskAt F w d D) (hc : areCoins s.data.toList = true) (hn : D.tape.length + s.size ≤ 1024) :
    Calls Try.prog 70 #[.pointer (some ⟨d, 0, none⟩), .string s] w fun e w' => e = .returned (.int .i64 0) ∧ DeskStep F w w' d { D with tape := D.tape ++ coinsOf s.data.toList } := by
  obtain ⟨vt, vk, rs, h⟩ := h
  have hL := hid (lay_any d _ _ _ D.tape s w h.blk h.tp (by omega) (by omega))
  obtain ⟨ao, c, rfl⟩ := h.vtForm
  obtain ⟨_, c1, _, _⟩ := blk3 h.blk
  have hA := hid (areCoins_any s w (by unfold maxLen; omega))
  rw [hc] at hA
  have HT := hid (tapeLeft_any d _ _ _ w c1)
  have HD := hid h
  generalize htl : D.tape.length = tl at *
  clear h
  go_enter Try.func70, Try.ntmps70
  go_wp2_with (first | (go_at_call 85; refine hA.out.mono ?_; rintro e w' ⟨rfl, hw⟩; obtain rfl := hw.symm) | (go_at_call 84; refine HT.out.mono ?_; rintro e w' ⟨rfl, hw⟩; obtain rfl := hw.symm) | (go_at_call 86; refine hL.out.mono ?_; rintro e w' ⟨rfl, vt', h1, h2, h3, h4⟩; have H1 := hid h1; have H2 := hid h2; have H3 := hid h3; have H4 := hid h4; clear h1 h2 h3 h4))
  go_ret
  exact ⟨rfl, DeskStep.retape HD.out H1.out H2.out H3.out H4.out⟩

end Go.Proofs.Ytaajcmoenemmlab
