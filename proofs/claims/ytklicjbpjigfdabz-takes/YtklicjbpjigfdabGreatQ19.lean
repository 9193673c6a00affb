/- DERIVED. What goes on holding of the desk under every call: order and ends besides. -/
import Derived.Test.YtklicjbpjigfdabGreatQ18
import Derived.Test.YtklicjbpjigfdabGreatQ17
import Derived.Test.YtklicjbpjigfdabGreatQ10
import Derived.Test.YtklicjbpjigfdabGreatQ16
import Derived.Test.YtklicjbpjigfdabGreatAddW
import Derived.Test.YtklicjbpjigfdabGreatQ14
namespace Go.Proofs.YtklicjbpjigfdabGreat
open Go.RowKit

theorem lvOk_sub {X : List Int} {L : List Lvl} (h : LvOk X L) : ∀ z ∈ itemsAll L, z ∈ X := fun z hz => by
  obtain ⟨j, _, hz⟩ := mem_itemsAll.1 hz
  exact (h.at j).2 z hz
theorem lvOk_all {X : List Int} {L : List Lvl} (h : LvOk X L) : LvOk (itemsAll L) L := fun l hl => by
  refine ⟨(h l hl).1, fun x hx => ?_⟩
  obtain ⟨j, hj, e⟩ := List.getElem_of_mem hl
  exact mem_itemsAll.2 ⟨j, hj, by simp [List.getD, hj, e, hx]⟩
theorem itemsAll_none {L : List Lvl} (h : wsum L = 0) : itemsAll L = [] := by
  apply List.eq_nil_iff_forall_not_mem.2
  intro z hz
  obtain ⟨j, hj, hz⟩ := mem_itemsAll.1 hz
  have h1 := nsum_le L
  have h2 := nsum_at hj
  have h3 := List.length_pos_of_mem hz
  omega

theorem rises_srt : ∀ {l : List Int}, risesB l = true → Srt l
  | [], _ => List.Pairwise.nil
  | [x], _ => List.pairwise_singleton _ _
  | x :: y :: r, h => by
    rw [risesB, Bool.and_eq_true, decide_eq_true_eq] at h
    have ih := rises_srt h.2
    refine List.pairwise_cons.2 ⟨fun z hz => ?_, ih⟩
    rcases List.mem_cons.1 hz with rfl | hz
    · exact h.1
    · exact Int.le_trans h.1 ((List.pairwise_cons.1 ih).1 z hz)

/-- Levels in rising order, items between the ends. -/
structure SOk (h : Hd) : Prop where
  srt : LvOk (itemsAll h.sk.lv) h.sk.lv
  ends : ∀ z ∈ itemsAll h.sk.lv, h.sk.lo ≤ z ∧ z ≤ h.sk.hi
  roomy : Roomy h.sk.k h.sk.lv
theorem sok_begun (k : Nat) : SOk (Hd.begun k) := by
  refine ⟨fun l hl => ?_, fun z hz => ?_, by simp [Hd.begun, Roomy, Lvl.none]⟩
  · simp [Hd.begun] at hl
    subst hl
    exact ⟨List.Pairwise.nil, fun x hx => by simp [Lvl.none] at hx⟩
  · simp [Hd.begun, itemsAll, Lvl.none] at hz
theorem sok_took {h : Hd} {x : Int} {wt u : Nat} {cs : List Bool} {L' : List Lvl} {b : Bool} {l : List (Nat × Nat)} (hc : SOk h) (hs : settle h.sk.k cs 0 (addL h x wt) = some (L', u)) :
    SOk { sk := { k := h.sk.k, lv := L', lo := addLo h x, hi := addHi h x }, sealed := b, taken := l } := by
  have h1 : LvOk (x :: itemsAll h.sk.lv) (addL h x wt) := LvOk.with (List.mem_cons_self) (hc.srt.mono fun y hy => List.mem_cons_of_mem _ hy)
  have h2 := h1.settle hs
  refine ⟨lvOk_all h2, fun z hz => ?_, (Roomy.with hc.roomy).settle hs⟩
  have hz := lvOk_sub h2 z hz
  show addLo h x ≤ z ∧ z ≤ addHi h x
  unfold addLo addHi widenLo widenHi
  by_cases hw : wsum h.sk.lv = 0
  · rw [itemsAll_none hw] at hz
    simp at hz
    subst hz
    rw [if_pos (.inl hw), if_pos (.inl hw)]
    omega
  · rcases List.mem_cons.1 hz with rfl | hz
    · constructor
      · split <;> omega
      · split <;> omega
    · have := hc.ends z hz
      constructor
      · split <;> rename_i e
        · rcases e with e | e
          · exact absurd e hw
          · omega
        · omega
      · split <;> rename_i e
        · rcases e with e | e
          · exact absurd e hw
          · omega
        · omega
theorem sok_merged {a c : Hd} {u : Nat} {cs : List Bool} {L' : List Lvl} {b : Bool} {l : List (Nat × Nat)} (ha : SOk a) (hb : SOk c) (hs : settle (mgK a c) cs 0 (mgL a c) = some (L', u)) :
    SOk { sk := { k := mgK a c, lv := L', lo := mgLo a c, hi := mgHi a c }, sealed := b, taken := l } := by
  have h1 : LvOk (itemsAll a.sk.lv ++ itemsAll c.sk.lv) (mgL a c) := LvOk.merge (ha.srt.mono fun y hy => List.mem_append_left _ hy) (hb.srt.mono fun y hy => List.mem_append_right _ hy)
  have h2 := h1.settle hs
  have hki : mgK a c ≤ a.sk.k := by unfold mgK mergeK; split <;> omega
  have hkj : mgK a c ≤ c.sk.k := by unfold mgK mergeK; split <;> omega
  refine ⟨lvOk_all h2, fun z hz => ?_, (Roomy.merge (ha.roomy.mono hki) (hb.roomy.mono hkj)).settle hs⟩
  have hz := lvOk_sub h2 z hz
  show mgLo a c ≤ z ∧ z ≤ mgHi a c
  unfold mgLo mgHi mergeLo mergeHi widenLo widenHi
  by_cases hw : 0 < wsum c.sk.lv
  · rw [if_pos hw, if_pos hw]
    rcases List.mem_append.1 hz with hz | hz
    · have hwa : ¬ wsum a.sk.lv = 0 := fun e => by rw [itemsAll_none e] at hz; cases hz
      have := ha.ends z hz
      constructor
      · split <;> rename_i e
        · rcases e with e | e
          · exact absurd e hwa
          · omega
        · omega
      · split <;> rename_i e
        · rcases e with e | e
          · exact absurd e hwa
          · omega
        · omega
    · have := hb.ends z hz
      constructor
      · split <;> omega
      · split <;> omega
  · rw [if_neg hw, if_neg hw]
    rcases List.mem_append.1 hz with hz | hz
    · exact ha.ends z hz
    · rw [itemsAll_none (by omega)] at hz; cases hz
theorem times_roomy {k n : Nat} : ∀ {L : List Lvl} {h : Nat}, h + L.length = n → timesB k n h L = true → Roomy k L
  | [], _, _, _ => trivial
  | l :: L, h, hn, ht => by
    simp only [timesB, Bool.and_eq_true, decide_eq_true_eq] at ht
    simp only [List.length_cons] at hn
    refine ⟨?_, times_roomy (h := h + 1) (by omega) ht.2⟩
    have h1 := ht.1
    rw [show n - 1 - h = L.length by omega] at h1
    have h2 : 2 ^ h * (l.times * capOf k L.length) ≤ 2 ^ h * (2 * wsum L) := by
      rw [Nat.pow_succ] at h1
      calc 2 ^ h * (l.times * capOf k L.length) = l.times * 2 ^ h * capOf k L.length := by rw [← Nat.mul_assoc, Nat.mul_comm (2 ^ h) l.times]
        _ ≤ 2 ^ h * 2 * wsum L := h1
        _ = 2 ^ h * (2 * wsum L) := Nat.mul_assoc _ _ _
    exact Nat.le_of_mul_le_mul_left h2 (Nat.pow_pos (by omega))
theorem sok_told {t : ByteArray} {b : Bool} {l : List (Nat × Nat)} (h : isText (bytesOf t) = true) : SOk ⟨toldS (bytesOf t), b, l⟩ := by
  have hs : soundB (toldS (bytesOf t)) = true := by
    unfold isText at h
    rw [Bool.and_eq_true] at h
    exact h.1
  generalize toldS (bytesOf t) = s at *
  have hl : ∀ x ∈ s.lv, lvB s.lo s.hi x = true := by
    simp only [soundB, Bool.and_eq_true] at hs
    exact List.all_eq_true.1 hs.2.2.1
  have hsrt : ∀ x ∈ s.lv, Srt x.items := fun x hx => by
    have := hl x hx
    unfold lvB at this
    rw [Bool.and_eq_true] at this
    exact rises_srt this.2
  have htm : timesB s.k s.lv.length 0 s.lv = true := by
    simp only [soundB, Bool.and_eq_true] at hs
    exact hs.2.1
  refine ⟨lvOk_all (X := itemsAll s.lv) (fun x hx => ⟨hsrt x hx, fun y hy => ?_⟩), fun z hz => ?_, times_roomy (Nat.zero_add _) htm⟩
  · obtain ⟨j, hj, e⟩ := List.getElem_of_mem hx
    exact mem_itemsAll.2 ⟨j, hj, by simp [List.getD, hj, e, hy]⟩
  · obtain ⟨j, hj, hz⟩ := mem_itemsAll.1 hz
    have hm : s.lv.getD j Lvl.none ∈ s.lv := by
      rw [List.getD_eq_getElem?_getD, List.getElem?_eq_getElem hj]; exact List.getElem_mem hj
    have := hl _ hm
    unfold lvB at this
    rw [Bool.and_eq_true, List.all_eq_true] at this
    have := this.1 z hz
    simp only [Bool.and_eq_true, decide_eq_true_eq] at this
    exact this

structure LInv (D : Dk) : Prop where
  inv : DInv D
  ok : ∀ i, i < D.sks.length → SOk (D.sks.getD i Hd.none)
theorem SOk.ssum {h : Hd} (k : SOk h) (ok : h.Ok) : ssum h.sk.lv ≤ 1152921504606846976 := by
  have h1 := k.roomy.ssum
  have h2 : 2 ^ h.sk.lv.length ≤ 2 ^ 29 := Nat.pow_le_pow_right (by omega) ok.len
  have h3 : 2 ^ h.sk.lv.length * wsum h.sk.lv ≤ 2 ^ 29 * 268435456 := Nat.mul_le_mul h2 ok.cnt
  omega
theorem linv_first (rm : Nat) (h1 : 1 ≤ rm) (h2 : rm ≤ 8) : LInv ⟨rm, [], []⟩ := ⟨⟨h1, h2, Nat.zero_le _, Nat.zero_le _, fun i hi => by simp at hi, fun i hi => by simp at hi⟩, fun i hi => by simp at hi⟩
theorem LInv.set {D : Dk} {i : Nat} {h : Hd} {t : List Bool} (hd : LInv D) (hi : i < D.sks.length) (hr : RInv h) (hk : SOk h) (ht : h.taken.length ≤ 64) (hl : t.length ≤ 1024) : LInv { D with tape := t, sks := D.sks.set i h } := by
  refine ⟨hd.inv.set hi hr ht hl, fun j hj => ?_⟩
  show SOk ((D.sks.set i h).getD j Hd.none)
  have hj' : j < D.sks.length := by simpa using hj
  rw [getD_set_hd hi]
  split
  · exact hk
  · exact hd.ok j hj'
theorem LInv.push {D : Dk} {h : Hd} (hd : LInv D) (hl : D.sks.length < D.room) (hr : RInv h) (hk : SOk h) (ht : h.taken.length ≤ 64) : LInv { D with sks := D.sks ++ [h] } := by
  have hat : ∀ j, j < (D.sks ++ [h]).length → (j < D.sks.length ∧ (D.sks ++ [h]).getD j Hd.none = D.sks.getD j Hd.none) ∨ (D.sks ++ [h]).getD j Hd.none = h := fun j hj => by
    by_cases e : j < D.sks.length
    · exact .inl ⟨e, by simp [List.getD, List.getElem?_append, e]⟩
    · have : j = D.sks.length := by simp at hj; omega
      subst this
      exact .inr (by simp [List.getD])
  refine ⟨⟨hd.inv.room1, hd.inv.room2, by show (D.sks ++ [h]).length ≤ D.room; simp; omega, hd.inv.tape, fun j hj => ?_, fun j hj => ?_⟩, fun j hj => ?_⟩
  · show RInv ((D.sks ++ [h]).getD j Hd.none)
    rcases hat j hj with ⟨e, h1⟩ | h1 <;> rw [h1]
    · exact hd.inv.sk j e
    · exact hr
  · show ((D.sks ++ [h]).getD j Hd.none).taken.length ≤ 64
    rcases hat j hj with ⟨e, h1⟩ | h1 <;> rw [h1]
    · exact hd.inv.tk j e
    · exact ht
  · show SOk ((D.sks ++ [h]).getD j Hd.none)
    rcases hat j hj with ⟨e, h1⟩ | h1 <;> rw [h1]
    · exact hd.ok j e
    · exact hk
theorem drop_le {D : Dk} (hd : LInv D) (u : Nat) : (D.tape.drop u).length ≤ 1024 := by
  have := hd.inv.tape
  rw [List.length_drop]; omega

theorem AddRel.linv {A B C : Int} {D D' : Dk} {c : Int} (h : AddRel A B C D c D') (hd : LInv D) : LInv D' := by
  unfold AddRel at h
  rcases h with ⟨_, _, e⟩ | ⟨i, _, hi, ⟨_, _, e⟩ | ⟨_, ⟨_, _, e⟩ | ⟨_, _, _, e⟩ | ⟨h1, h2, ⟨_, _, e⟩ | ⟨_, L, u, hs, e⟩⟩⟩⟩
  · rw [e]; exact hd
  · rw [e]; exact hd
  · rw [e]; exact hd
  · rw [e]; exact hd
  · rw [e]; exact hd
  · rw [e]
    exact hd.set hi (rinv_took (hd.inv.sk i hi) (by omega) (by omega) hs).1 (sok_took (hd.ok i hi) hs) (hd.inv.tk i hi) (drop_le hd u)
theorem MergeRel.linv {A B : Int} {D D' : Dk} {c : Int} (h : MergeRel A B D c D') (hd : LInv D) : LInv D' := by
  unfold MergeRel at h
  rcases h with ⟨_, _, e⟩ | ⟨i, j, _, _, hi, hj, ⟨_, _, e⟩ | ⟨_, ⟨_, _, e⟩ | ⟨h1, ⟨_, _, e⟩ | ⟨_, L, u, hs, e⟩⟩⟩⟩
  · rw [e]; exact hd
  · rw [e]; exact hd
  · rw [e]; exact hd
  · rw [e]; exact hd
  · rw [e]
    exact hd.set hi (rinv_merged (hd.inv.sk i hi) (hd.inv.sk j hj) h1 hs).1 (sok_merged (hd.ok i hi) (hd.ok j hj) hs) (hd.inv.tk i hi) (drop_le hd u)
theorem SealRel.linv {A : Int} {D D' : Dk} {c : Int} (h : SealRel A D c D') (hd : LInv D) : LInv D' := by
  unfold SealRel at h
  rcases h with ⟨_, _, e⟩ | ⟨i, _, hi, ⟨_, _, e⟩ | ⟨_, _, e⟩⟩
  · rw [e]; exact hd
  · rw [e]; exact hd
  · rw [e]
    have h1 := hd.inv.sk i hi
    have h2 := hd.ok i hi
    exact hd.set hi ⟨⟨h1.ok.k1, h1.ok.k2, h1.ok.len1, h1.ok.len, h1.ok.cnt, h1.ok.tms⟩, h1.set, h1.tn⟩ ⟨h2.srt, h2.ends, h2.roomy⟩ (hd.inv.tk i hi) hd.inv.tape
theorem OpenRel.linv {A : Int} {D D' : Dk} {v c : Int} (h : OpenRel A D v c D') (hd : LInv D) : LInv D' := by
  unfold OpenRel at h
  rcases h with ⟨_, _, _, e⟩ | ⟨h1, ⟨_, _, _, e⟩ | ⟨h2, _, _, e⟩⟩
  · rw [e]; exact hd
  · rw [e]; exact hd
  · rw [e]
    exact hd.push h2 (rinv_begun _ (by omega) (by omega)) (sok_begun _) (Nat.zero_le _)
theorem DecodeRel.linv {t : ByteArray} {D D' : Dk} {v c : Int} (h : DecodeRel t D v c D') (hd : LInv D) : LInv D' := by
  unfold DecodeRel at h
  rcases h with ⟨_, _, _, e⟩ | ⟨h1, ⟨_, _, _, e⟩ | ⟨h2, _, _, e⟩⟩
  · rw [e]; exact hd
  · rw [e]; exact hd
  · rw [e]
    exact hd.push h2 (rinv_told h1) (sok_told h1) (Nat.zero_le _)
theorem FeedRel.linv {t : ByteArray} {D D' : Dk} {c : Int} (h : FeedRel t D c D') (hd : LInv D) : LInv D' := by
  unfold FeedRel at h
  rcases h with ⟨_, _, e⟩ | ⟨h1, ⟨_, _, e⟩ | ⟨_, h2, e⟩⟩
  · rw [e]; exact hd
  · rw [e]; exact hd
  · rw [e]
    exact ⟨⟨hd.inv.room1, hd.inv.room2, hd.inv.len, by show (D.tape ++ coinsOf t.data.toList).length ≤ 1024; simp [coinsOf]; omega, hd.inv.sk, hd.inv.tk⟩, hd.ok⟩
theorem TakeRel.linv {A B C : Int} {t : ByteArray} {D D' : Dk} {c : Int} (h : TakeRel A B C t D c D') (hd : LInv D) : LInv D' := by
  unfold TakeRel at h
  rcases h with ⟨_, _, e⟩ | ⟨i, _, hi, ⟨_, _, e⟩ | ⟨_, ⟨_, _, e⟩ | ⟨_, ⟨_, _, e⟩ | ⟨_, ⟨_, _, e⟩ | ⟨ht, ⟨_, _, e⟩ | ⟨hl, ⟨_, _, e⟩ | ⟨hw, ⟨_, _, e⟩ | ⟨_, L, u, hs, e⟩⟩⟩⟩⟩⟩⟩⟩
  · rw [e]; exact hd
  · rw [e]; exact hd
  · rw [e]; exact hd
  · rw [e]; exact hd
  · rw [e]; exact hd
  · rw [e]; exact hd
  · rw [e]; exact hd
  · rw [e]; exact hd
  · rw [e]
    refine hd.set hi ?_ ?_ ?_ (drop_le hd u)
    · exact (rinv_merged (b := (D.sks.getD i Hd.none).sealed) (l := (D.sks.getD i Hd.none).taken ++ [(B.toNat, C.toNat)]) (hd.inv.sk i hi) (rinv_told (b := false) (l := []) ht) hw hs).1
    · exact sok_merged (hd.ok i hi) (sok_told ht) hs
    · show ((D.sks.getD i Hd.none).taken ++ [_]).length ≤ 64
      rw [List.length_append, List.length_singleton]; omega

end Go.Proofs.YtklicjbpjigfdabGreat

/- DERIVED. What the calls of the document's desk do to it in memory. -/
namespace Go.Proofs.YtklicjbpjigfdabGreat
open Go.RowKit
variable {G : Nat → Prop}

theorem getD_push_l {α : Type} (l : List α) (x d : α) {i : Nat} (hi : i < l.length) : (l ++ [x]).getD i d = l.getD i d := by simp [List.getD, List.getElem?_append, hi]
theorem getD_push_e {α : Type} (l : List α) (x d : α) {i : Nat} (hi : i = l.length) : (l ++ [x]).getD i d = x := by subst hi; simp [List.getD]

/-- One sketch more. -/
theorem rpush_st {w0 w1 wx w2 : World} {d g2 cap2 n : Nat} {D : Dk} {s : ByteArray} {va : Value} {rs : List RRef} {r : RRef} {x : Hd} (h : RIn G w0 d D s va rs) (hn : D.sks.length = n) (hbw : Below w0.heap.size w0 w1) (hr : RsOk w1 r x) (hro : ∀ b, r.owns b → G b ∨ w0.heap.size ≤ b) (hx : Below w1.heap.size w1 wx)
    (hown : w2.ownsRow 0 71 7 (.slice (some ⟨g2, 0, none⟩) (n + 1) cap2) (n + 1) (rsCells rs D.sks ++ rsCell r x)) (hgrow : wx.grownBy w2 va.ownBlock) (hat : va.ownBlock = some g2 ∨ w1.heap.size ≤ g2) (hq : w2.heap[d]? = some (rdBlk (D.room : Int) s va)) :
    RStep G w0 (w2.setCell ⟨d, 2, none⟩ (.slice (some ⟨g2, 0, none⟩) (n + 1) cap2)) d { D with sks := D.sks ++ [x] } := by
  subst hn
  have h1 := h.below hbw
  have hz2 : w1.heap.size ≤ w2.heap.size := Nat.le_trans hx.size hgrow.size
  have hk : ∀ b, b < w1.heap.size → b ≠ d → va.ownBlock ≠ some b → (w2.setCell ⟨d, 2, none⟩ (.slice (some ⟨g2, 0, none⟩) (D.sks.length + 1) cap2)).heap[b]? = w1.heap[b]? := fun b hb hd hv => by
    rw [Below.heap_setCell _ _ _ _ hd, hgrow.block b (Nat.lt_of_lt_of_le hb hx.size) (fun e => hv e.symm), hx.block b hb]
  have hne2 : g2 ≠ d := by
    intro e; subst e
    obtain ⟨c, hc⟩ := ownsRow_blk hown (g := g2) rfl
    rw [hq] at hc; cases hc
  refine h.move (s' := s) (va' := .slice (some ⟨g2, 0, none⟩) (D.sks.length + 1) cap2) (rs' := rs ++ [r]) (sks' := D.sks ++ [x]) (t' := D.tape) ?_ h.coins h.tape ?_ ?_ (by simp [h.len]) ?_ ?_ ?_
  · have := blk_set (i := 2) (.slice (some ⟨g2, 0, none⟩) (D.sks.length + 1) cap2) hq
    simpa using this
  · rw [rsCells_push _ _ _ _ h.len, show (D.sks ++ [x]).length = D.sks.length + 1 by simp]
    exact ownsRow_block hown (fun b e => by simp [Value.ownBlock] at e; subst e; exact Below.heap_setCell _ _ _ _ hne2)
  · intro b e
    simp [Value.ownBlock] at e
    subst e
    rcases hat with e | e
    · exact .inl (h.frow _ e)
    · exact .inr (Nat.le_trans hbw.size e)
  · intro i hi
    by_cases hil : i < D.sks.length
    · rw [getD_push_l _ _ _ hil, getD_push_l _ _ _ (by rw [h.len]; exact hil)]
      exact h1.still hk (h1.sk i hil)
    · have e : i = D.sks.length := by simp at hi; omega
      rw [getD_push_e _ _ _ e, getD_push_e _ _ _ (by rw [h.len]; exact e)]
      exact h1.still hk hr
  · intro i hi b e
    by_cases hil : i < D.sks.length
    · rw [getD_push_l _ _ _ (by rw [h.len]; exact hil)] at e
      exact .inl (h.fsk i hil b e)
    · have e2 : i = D.sks.length := by simp at hi; omega
      rw [getD_push_e _ _ _ (by rw [h.len]; exact e2)] at e
      exact hro b e
  · refine Fr.set ⟨hgrow.os.trans (hx.os.trans hbw.os), hgrow.tape.trans (hx.tape.trans hbw.tape), hgrow.output.trans (hx.output.trans hbw.output), Nat.le_trans hbw.size hz2, fun b hb hn => ?_⟩ (fun _ => h.fd) _
    rw [hgrow.block b (by have := hbw.size; have := hx.size; omega) (fun e => hn (h.frow b e.symm)), hx.block b (by have := hbw.size; omega), hbw.block b hb]

/-- One sketch turned, and perhaps the tape. -/
theorem rset_st {w0 w1 w2 : World} {d g c i : Nat} {D : Dk} {s s' : ByteArray} {rs : List RRef} {r : RRef} {x : Hd} (h : RIn G w0 d D s (.slice (some ⟨g, 0, none⟩) D.sks.length c) rs) (hi : i < D.sks.length) (hbw : Below w0.heap.size w0 w1) (hr : RsOk w1 r x) (hro : ∀ b, r.owns b → G b ∨ w0.heap.size ≤ b)
    (hrow : w2.ownsRow 0 71 7 (.slice (some ⟨g, 0, none⟩) D.sks.length c) D.sks.length (rsCells (rs.set i r) (D.sks.set i x))) (hblk : w2.heap[d]? = some (rdBlk (D.room : Int) s' (.slice (some ⟨g, 0, none⟩) D.sks.length c)))
    (hf : Fr (fun b => b = d ∨ b = g) w1 w2) (hc : areCoins s'.data.toList = true) : RStep G w0 w2 d { D with tape := coinsOf s'.data.toList, sks := D.sks.set i x } := by
  have h1 := h.below hbw
  have hk : ∀ b, b < w1.heap.size → b ≠ d → (Value.slice (some ⟨g, 0, none⟩) D.sks.length c).ownBlock ≠ some b → w2.heap[b]? = w1.heap[b]? := fun b hb hd hv => by
    refine hf.block b hb (fun e => ?_)
    rcases e with e | e
    · exact hd e
    · subst e; exact hv rfl
  refine h.move (s' := s') (rs' := rs.set i r) (sks' := D.sks.set i x) (t' := coinsOf s'.data.toList) hblk hc rfl (by rw [List.length_set]; exact hrow) (fun b e => .inl (h.frow b e)) (by simp [h.len]) (fun j hj => ?_) (fun j hj b e => ?_) ?_
  · have hj' : j < D.sks.length := by simpa using hj
    rw [getD_set_h hi, getD_set_r (by rw [h.len]; exact hi)]
    split
    · exact h1.still hk hr
    · exact h1.still hk (h1.sk j hj')
  · have hj' : j < D.sks.length := by simpa using hj
    rw [getD_set_r (by rw [h.len]; exact hi)] at e
    split at e
    · exact hro b e
    · exact .inl (h.fsk j hj' b e)
  · refine (Fr.below (S := G) hbw).trans hf (fun b hb e => ?_)
    rcases e with rfl | rfl
    · exact h.fd
    · exact h.frow _ rfl
/-- The seven cells of a sketch, stored. -/
theorem rstore7 {w : World} {g n c i : Nat} {rs : List RRef} {hs : List Hd} (h : w.ownsRow 0 71 7 (.slice (some ⟨g, 0, none⟩) n c) n (rsCells rs hs)) (hl : rs.length = hs.length) (hi : i < hs.length) (r : RRef) (x : Hd) :
    (((((((w.setCell ⟨g, i * 7, none⟩ (.int .i64 (x.sk.k : Int))).setCell ⟨g, i * 7 + 1, none⟩ r.vb).setCell ⟨g, i * 7 + 2, none⟩ r.vt).setCell ⟨g, i * 7 + 3, none⟩ (.int .i64 r.lo)).setCell ⟨g, i * 7 + 4, none⟩ (.int .i64 r.hi)).setCell ⟨g, i * 7 + 5, none⟩ (.bool x.sealed)).setCell ⟨g, i * 7 + 6, none⟩ r.vk).ownsRow 0 71 7 (.slice (some ⟨g, 0, none⟩) n c) n (rsCells (rs.set i r) (hs.set i x)) := by
  rw [rsCells_set rs hs i r x hl hi]
  exact (((((((h.stored _ _).1.stored _ _).1.stored _ _).1.stored _ _).1.stored _ _).1.stored _ _).1.stored _ _).1
theorem fr_store7 {w : World} {d g : Nat} (j0 j1 j2 j3 j4 j5 j6 : Nat) (a b c e f k l : Value) : Fr (fun x => x = d ∨ x = g) w (((((((w.setCell ⟨g, j0, none⟩ a).setCell ⟨g, j1, none⟩ b).setCell ⟨g, j2, none⟩ c).setCell ⟨g, j3, none⟩ e).setCell ⟨g, j4, none⟩ f).setCell ⟨g, j5, none⟩ k).setCell ⟨g, j6, none⟩ l) :=
  (((((((Fr.refl _ w).set (fun _ => .inr rfl) _).set (fun _ => .inr rfl) _).set (fun _ => .inr rfl) _).set (fun _ => .inr rfl) _).set (fun _ => .inr rfl) _).set (fun _ => .inr rfl) _).set (fun _ => .inr rfl) _
theorem store7_other {w : World} {d g : Nat} (hd : d ≠ g) (j0 j1 j2 j3 j4 j5 j6 : Nat) (a b c e f k l : Value) : (((((((w.setCell ⟨g, j0, none⟩ a).setCell ⟨g, j1, none⟩ b).setCell ⟨g, j2, none⟩ c).setCell ⟨g, j3, none⟩ e).setCell ⟨g, j4, none⟩ f).setCell ⟨g, j5, none⟩ k).setCell ⟨g, j6, none⟩ l).heap[d]? = w.heap[d]? := by
  rw [Below.heap_setCell _ _ _ _ hd, Below.heap_setCell _ _ _ _ hd, Below.heap_setCell _ _ _ _ hd, Below.heap_setCell _ _ _ _ hd, Below.heap_setCell _ _ _ _ hd, Below.heap_setCell _ _ _ _ hd, Below.heap_setCell _ _ _ _ hd]
theorem RIn.ne {w : World} {d g n c : Nat} {D : Dk} {s : ByteArray} {rs : List RRef} (h : RIn G w d D s (.slice (some ⟨g, 0, none⟩) n c) rs) : d ≠ g := by
  rintro rfl
  obtain ⟨cc, hc⟩ := ownsRow_blk h.row (g := d) rfl
  rw [h.blk] at hc; cases hc

/-- The sketch and the tape stored, as enter does. -/
theorem renter_st {w0 w1 : World} {d g c i : Nat} {D : Dk} {s s' : ByteArray} {rs : List RRef} {r : RRef} {x : Hd} (h : RIn G w0 d D s (.slice (some ⟨g, 0, none⟩) D.sks.length c) rs) (hi : i < D.sks.length) (hbw : Below w0.heap.size w0 w1) (hr : RsOk w1 r x) (hro : ∀ b, r.owns b → G b ∨ w0.heap.size ≤ b) (hc : areCoins s'.data.toList = true) :
    RStep G w0 ((((((((w1.setCell ⟨g, i * 7, none⟩ (.int .i64 (x.sk.k : Int))).setCell ⟨g, i * 7 + 1, none⟩ r.vb).setCell ⟨g, i * 7 + 2, none⟩ r.vt).setCell ⟨g, i * 7 + 3, none⟩ (.int .i64 r.lo)).setCell ⟨g, i * 7 + 4, none⟩ (.int .i64 r.hi)).setCell ⟨g, i * 7 + 5, none⟩ (.bool x.sealed)).setCell ⟨g, i * 7 + 6, none⟩ r.vk).setCell ⟨d, 1, none⟩ (.string s')) d { D with tape := coinsOf s'.data.toList, sks := D.sks.set i x } := by
  have h1 := h.below hbw
  have hne := h.ne
  have hrow := rstore7 h1.row h.len hi r x
  refine rset_st h hi hbw hr hro (ownsRow_block hrow (fun b e => ?_)) ?_ (Fr.set (a := ⟨d, 1, none⟩) (fr_store7 (d := d) (g := g) _ _ _ _ _ _ _ _ _ _ _ _ _ _) (fun _ => .inl rfl) _) hc
  · simp [Value.ownBlock] at e
    subst e
    exact Below.heap_setCell _ _ _ _ (Ne.symm hne)
  · have hb := (store7_other hne (i * 7) (i * 7 + 1) (i * 7 + 2) (i * 7 + 3) (i * 7 + 4) (i * 7 + 5) (i * 7 + 6) (.int .i64 (x.sk.k : Int)) r.vb r.vt (.int .i64 r.lo) (.int .i64 r.hi) (.bool x.sealed) r.vk).trans h1.blk
    have := blk_set (i := 1) (.string s') hb
    simpa using this
/-- A sketch is sealed. -/
theorem rseal_st {w : World} {d g c i : Nat} {D : Dk} {s : ByteArray} {rs : List RRef} (h : RIn G w d D s (.slice (some ⟨g, 0, none⟩) D.sks.length c) rs) (hi : i < D.sks.length) :
    RStep G w (w.setCell ⟨g, i * 7 + 5, none⟩ (.bool true)) d { D with sks := D.sks.set i { D.sks.getD i Hd.none with sealed := true } } := by
  have hne := h.ne
  have hrow := (h.row.stored (i * 7 + 5) (.bool true)).1
  rw [← rsCells_seal rs D.sks i true h.len hi] at hrow
  have hrs : rs.set i (rs.getD i RRef.none) = rs := by
    apply List.ext_getElem?
    intro j
    by_cases e : i = j
    · subst e; simp [List.getD, h.len, hi]
    · rw [List.getElem?_set_ne e]
  have := rset_st (r := rs.getD i RRef.none) (x := { D.sks.getD i Hd.none with sealed := true }) (s' := s) h hi (Below.refl _ _) ((h.sk i hi).sealed true) (fun b e => .inl (h.fsk i hi b e)) (by rw [hrs]; exact hrow) (by rw [Below.heap_setCell _ _ _ _ hne]; exact h.blk) ((Fr.refl _ w).set (fun _ => .inr rfl) _) h.coins
  rw [h.tape] at this
  exact this
/-- A report more. -/
theorem rreport_st {w0 w1 : World} {d g c i : Nat} {D : Dk} {s : ByteArray} {rs : List RRef} {v : Value} {l : List (Nat × Nat)} (h : RIn G w0 d D s (.slice (some ⟨g, 0, none⟩) D.sks.length c) rs) (hi : i < D.sks.length) (hbw : Below w0.heap.size w0 w1) (hv : w1.ownsRow w0.heap.size 134 2 v l.length (tkCells l)) :
    RStep G w0 (w1.setCell ⟨g, i * 7 + 6, none⟩ v) d { D with sks := D.sks.set i { D.sks.getD i Hd.none with taken := l } } := by
  have h1 := h.below hbw
  have hne := h.ne
  have hrow := (h1.row.stored (i * 7 + 6) v).1
  rw [← rsCells_tk rs D.sks i v l h.len hi] at hrow
  have hk := h1.sk i hi
  have := rset_st (r := { rs.getD i RRef.none with vk := v }) (x := { D.sks.getD i Hd.none with taken := l }) (s' := s) h hi hbw ⟨hk.bag, hk.bof, hk.tms, ownsRow_base hv (Nat.zero_le _), hk.ends⟩ (fun b e => ?_) hrow (by rw [Below.heap_setCell _ _ _ _ hne]; exact h1.blk) ((Fr.refl _ w1).set (fun _ => .inr rfl) _) h.coins
  · rw [h.tape] at this
    exact this
  · rcases e with e | e | e
    · exact .inl (h.fsk i hi b (.inl e))
    · exact .inl (h.fsk i hi b (.inr (.inl e)))
    · exact .inr (hv.lt _ e).1

end Go.Proofs.YtklicjbpjigfdabGreat

/- DERIVED. What comes into the document's sketch is what comes into the program's: counts, ends, bags. -/
namespace Go.Proofs.YtklicjbpjigfdabGreat

theorem bagW_of {bag : List (Int × Nat)} {L : List Lvl} (h : BagOf bag L) : bagW bag = wsum L := h.wsum
theorem BagOf.low {bag : List (Int × Nat)} {L : List Lvl} (h : BagOf bag L) (hl : L.length ≤ 31) : Low bag := fun z hz => by
  have := h.lt z hz
  omega
theorem bag_few {bag : List (Int × Nat)} {L : List Lvl} (h : BagOf bag L) : bag.length ≤ wsum L := by
  rw [h.nsum]; exact nsum_le L
theorem BagOf.nilNil : BagOf [] [] := fun j => by simp [lvOf, Lvl.none]
/-- The bag of a number alone. -/
theorem addB_of (x : Int) (f w : Nat) : BagOf (addB x f w 0) (withFrom x f w 0 []) := by
  have := BagOf.with_ (x := x) (f := f) (w := w) BagOf.nilNil (Nat.zero_le 0)
  simpa using this
theorem addB_w (x : Int) {w : Nat} (h : w < 2 ^ 29) : bagW (addB x 29 w 0) = w := by
  rw [bagW_of (addB_of x 29 w), withFrom_wsum h (Nat.zero_le _)]
  simp [wsum]
theorem addB_len (x : Int) : ∀ f w h : Nat, (addB x f w h).length ≤ f
  | 0, _, _ => Nat.le_refl _
  | f + 1, w, h => by
    have ih := addB_len x f (w / 2) (h + 1)
    rw [addB]
    split
    · split <;> simp <;> omega
    · simp
theorem addB_pos (x : Int) {w : Nat} (h : w < 2 ^ 29) (h1 : 1 ≤ w) : 0 < (addB x 29 w 0).length := by
  apply Nat.pos_of_ne_zero
  intro e
  have := addB_w x h
  rw [List.eq_nil_of_length_eq_zero e] at this
  simp [bagW] at this
  omega
theorem bln_le : ∀ f w : Nat, bln f w ≤ f
  | 0, _ => Nat.le_refl _
  | f + 1, w => by
    have := bln_le f (w / 2)
    rw [bln]
    split <;> omega
theorem bag_empty {bag : List (Int × Nat)} {L : List Lvl} (h : BagOf bag L) : bag.length = 0 ↔ wsum L = 0 := by
  constructor
  · intro e
    have := h.wsum
    rw [List.eq_nil_of_length_eq_zero e] at this
    simpa using this.symm
  · intro e
    have := bag_few h
    omega

/-- The ends when a number comes in. -/
theorem boLo_add {bag : List (Int × Nat)} {h : Hd} (hB : BagOf bag h.sk.lv) {lo x : Int} {nb : Nat} (hnb : 0 < nb) (he : bag ≠ [] → lo = h.sk.lo) : boLo bag.length nb lo x = addLo h x := by
  unfold boLo addLo widenLo
  by_cases e : bag.length = 0
  · rw [if_pos (.inl e), if_pos (.inl ((bag_empty hB).1 e))]
  · have hne : bag ≠ [] := fun h' => e (by rw [h']; rfl)
    have e2 : ¬ wsum h.sk.lv = 0 := fun h' => e ((bag_empty hB).2 h')
    have hl := he hne
    subst hl
    by_cases hx : x < h.sk.lo
    · rw [if_pos (.inr ⟨hnb, hx⟩), if_pos (.inr hx)]
    · rw [if_neg (fun o => o.elim (fun h' => e h') (fun h' => hx h'.2)), if_neg (fun o => o.elim (fun h' => e2 h') (fun h' => hx h'))]
theorem boHi_add {bag : List (Int × Nat)} {h : Hd} (hB : BagOf bag h.sk.lv) {hi x : Int} {nb : Nat} (hnb : 0 < nb) (he : bag ≠ [] → hi = h.sk.hi) : boHi bag.length nb hi x = addHi h x := by
  unfold boHi addHi widenHi
  by_cases e : bag.length = 0
  · rw [if_pos (.inl e), if_pos (.inl ((bag_empty hB).1 e))]
  · have hne : bag ≠ [] := fun h' => e (by rw [h']; rfl)
    have e2 : ¬ wsum h.sk.lv = 0 := fun h' => e ((bag_empty hB).2 h')
    have hl := he hne
    subst hl
    by_cases hx : h.sk.hi < x
    · rw [if_pos (.inr ⟨hnb, hx⟩), if_pos (.inr hx)]
    · rw [if_neg (fun o => o.elim (fun h' => e h') (fun h' => hx h'.2)), if_neg (fun o => o.elim (fun h' => e2 h') (fun h' => hx h'))]
/-- The ends when a sketch comes in: where something is kept behind it. -/
theorem boLo_mg {a b : List (Int × Nat)} {x y : Hd} (hA : BagOf a x.sk.lv) (hB : BagOf b y.sk.lv) {la lb : Int} (ha : a ≠ [] → la = x.sk.lo) (hb : b ≠ [] → lb = y.sk.lo) (hne : a ++ b ≠ []) : boLo a.length b.length la lb = mgLo x y := by
  unfold boLo mgLo mergeLo widenLo
  have ea := bag_empty hA
  have eb := bag_empty hB
  by_cases e : a.length = 0
  · have hb0 : b ≠ [] := fun h' => hne (by rw [List.eq_nil_of_length_eq_zero e, h']; rfl)
    have hbl : b.length ≠ 0 := fun h' => hb0 (List.eq_nil_of_length_eq_zero h')
    rw [if_pos (.inl e), if_pos (Nat.pos_of_ne_zero (fun h' => hbl (eb.2 h'))), if_pos (.inl (ea.1 e)), hb hb0]
  · have ha0 : a ≠ [] := fun h' => e (by rw [h']; rfl)
    have e2 : ¬ wsum x.sk.lv = 0 := fun h' => e (ea.2 h')
    by_cases e3 : b.length = 0
    · rw [if_neg (fun o => o.elim (fun h' => e h') (fun a => by omega)), if_neg (by rw [eb.1 e3]; omega), ha ha0]
    · have hb0 : b ≠ [] := fun h' => e3 (by rw [h']; rfl)
      rw [if_pos (Nat.pos_of_ne_zero (fun h' => e3 (eb.2 h'))), ha ha0, hb hb0]
      by_cases hx : y.sk.lo < x.sk.lo
      · rw [if_pos (.inr ⟨by omega, hx⟩), if_pos (.inr hx)]
      · rw [if_neg (fun o => o.elim (fun h' => e h') (fun h' => hx h'.2)), if_neg (fun o => o.elim (fun h' => e2 h') (fun h' => hx h'))]
theorem boHi_mg {a b : List (Int × Nat)} {x y : Hd} (hA : BagOf a x.sk.lv) (hB : BagOf b y.sk.lv) {la lb : Int} (ha : a ≠ [] → la = x.sk.hi) (hb : b ≠ [] → lb = y.sk.hi) (hne : a ++ b ≠ []) : boHi a.length b.length la lb = mgHi x y := by
  unfold boHi mgHi mergeHi widenHi
  have ea := bag_empty hA
  have eb := bag_empty hB
  by_cases e : a.length = 0
  · have hb0 : b ≠ [] := fun h' => hne (by rw [List.eq_nil_of_length_eq_zero e, h']; rfl)
    have hbl : b.length ≠ 0 := fun h' => hb0 (List.eq_nil_of_length_eq_zero h')
    rw [if_pos (.inl e), if_pos (Nat.pos_of_ne_zero (fun h' => hbl (eb.2 h'))), if_pos (.inl (ea.1 e)), hb hb0]
  · have ha0 : a ≠ [] := fun h' => e (by rw [h']; rfl)
    have e2 : ¬ wsum x.sk.lv = 0 := fun h' => e (ea.2 h')
    by_cases e3 : b.length = 0
    · rw [if_neg (fun o => o.elim (fun h' => e h') (fun a => by omega)), if_neg (by rw [eb.1 e3]; omega), ha ha0]
    · have hb0 : b ≠ [] := fun h' => e3 (by rw [h']; rfl)
      rw [if_pos (Nat.pos_of_ne_zero (fun h' => e3 (eb.2 h'))), ha ha0, hb hb0]
      by_cases hx : x.sk.hi < y.sk.hi
      · rw [if_pos (.inr ⟨by omega, hx⟩), if_pos (.inr hx)]
      · rw [if_neg (fun o => o.elim (fun h' => e h') (fun h' => hx h'.2)), if_neg (fun o => o.elim (fun h' => e2 h') (fun h' => hx h'))]

end Go.Proofs.YtklicjbpjigfdabGreat

/- DERIVED. The walks of the document's own opened, Open, Seal, Size, Ends; Feed, Left, New held against the desk. -/
namespace Go.Proofs.YtklicjbpjigfdabGreat
open Go.RowKit
attribute [local go_sem ↓] Go.wp_at_zero Go.wp_at_succ
variable {G : Nat → Prop}

theorem seven_new {w : World} {H : Nat} (hH : w.heap.size = H) (a b c d x y z : Value) (e : TypeId) : ∀ j u, [a, b, c, d, x, y, z][j]? = some u → (w.alloc (.cells #[a, b, c, d, x, y, z] e)).cell? ((⟨H, 0, none⟩ : Addr).add j) = some u := by
  subst hH
  intro j u hu
  match j, hu with
  | 0, hu => simp at hu; subst hu; simp [Addr.add]
  | 1, hu => simp at hu; subst hu; simp [Addr.add]
  | 2, hu => simp at hu; subst hu; simp [Addr.add]
  | 3, hu => simp at hu; subst hu; simp [Addr.add]
  | 4, hu => simp at hu; subst hu; simp [Addr.add]
  | 5, hu => simp at hu; subst hu; simp [Addr.add]
  | 6, hu => simp at hu; subst hu; simp [Addr.add]
theorem seven_cell {k : Nat} {b t v : Value} {lo hi : Int} {sl : Bool} (hb : b.oneCell' = true) (ht : t.oneCell' = true) (hv : v.oneCell' = true) : ∀ u ∈ [Value.int .i64 (k : Int), b, t, .int .i64 lo, .int .i64 hi, .bool sl, v], u.oneCell' = true := by
  intro u hu
  simp at hu
  rcases hu with rfl | rfl | rfl | rfl | rfl | rfl | rfl <;> first | assumption | rfl
theorem row_form {w : World} {b : Nat} {e : TypeId} {size : Nat} {v : Value} {n : Nat} {xs : List Value} (h : w.ownsRow b e size v n xs) : ∃ ao m c, v = .slice ao m c := by
  rcases h.2 with ⟨e', _⟩ | ⟨g, cap, cur, e', _⟩
  · exact ⟨_, _, _, e'⟩
  · exact ⟨_, _, _, e'⟩
/-- How a sketch lies: three slices. -/
theorem RsOk.forms {w : World} {r : RRef} {h : Hd} (k : RsOk w r h) : ∃ bo bl bc tO tl tc ko kl kc, r.vb = .slice bo bl bc ∧ r.vt = .slice tO tl tc ∧ r.vk = .slice ko kl kc ∧ bl = r.bag.length ∧ tl = h.sk.lv.length := by
  obtain ⟨bo, bc, e1, _⟩ := k.bag.form
  obtain ⟨tO, tc, e2, _⟩ := k.tms.form
  obtain ⟨ko, kl, kc, e3⟩ := row_form k.tk
  exact ⟨bo, _, bc, tO, _, tc, ko, kl, kc, e1, e2, e3, rfl, by rw [nats_length, timesN_length]⟩

set_option maxHeartbeats 1000000 in
set_option maxRecDepth 100000 in
theorem ropened_any (d : Nat) (r : RRef) (x : Hd) (D : Dk) (w0 w : World) (h : RAt G w0 d D) (hbw : Below w0.heap.size w0 w) (hk : RsOk w r x) (hro : ∀ b, r.owns b → G b ∨ w0.heap.size ≤ b) (hr : D.sks.length < D.room) (hr2 : D.room ≤ 8) :
    Calls Tryz.prog 28 #[.pointer (some ⟨d, 0, none⟩), rsVal x.sk.k r.vb r.vt r.lo r.hi x.sealed r.vk] w fun e w' => e = .returned (.tuple #[.int .i64 (D.sks.length : Int), .int .i64 0]) ∧ RStep G w0 w' d { D with sks := D.sks ++ [x] } := by
  obtain ⟨s, va, rs, h0⟩ := h
  have h := h0.below hbw
  have HD := hid h0
  have HK := hid hk
  have HRO := hid hro
  have hdz := lt_of_blk' h.blk
  obtain ⟨ao, c, rfl, _⟩ := h.form
  have HBLK := hid h.blk
  obtain ⟨i0, hi0, hz0, hz1, hz2⟩ := info_parts Tryz.infoRef
  have HROW := hid h.row
  have HNE : Hid (Value.ownBlock (.slice ao D.sks.length c) ≠ some d) := by
    intro e
    obtain ⟨cc, hc⟩ := ownsRow_blk h.row e
    rw [h.blk] at hc; cases hc
  obtain ⟨bo, bl, bc, tO, tl, tc, ko, kl, kc, e1, e2, e3, e4, e5⟩ := hk.forms
  clear e4 e5
  have HPU := hid (fun (wx w2 : World) (g2 cap2 : Nat) => rpush_st (w1 := w) (wx := wx) (w2 := w2) (g2 := g2) (cap2 := cap2) h0 rfl hbw hk hro)
  have HRC : Hid (rsCell r x = [.int .i64 (x.sk.k : Int), r.vb, r.vt, .int .i64 r.lo, .int .i64 r.hi, .bool x.sealed, r.vk]) := rfl
  rw [e1, e2, e3] at HRC ⊢
  generalize rsCell r x = rc at *
  generalize hn : D.sks.length = n at *
  have HN := hid hn
  generalize hrm : D.room = room at *
  generalize x.sk.k = k at *
  generalize r.lo = lo at *
  generalize r.hi = hi at *
  generalize x.sealed = sl at *
  have HBW := hid hbw
  clear h h0 hn hrm hk hbw hro e1 e2 e3
  have HBX := hid (heap_alloc_new w (rsBlk k (.slice bo bl bc) (.slice tO tl tc) lo hi sl (.slice ko kl kc)))
  have HBL := hid ((Below.refl w.heap.size w).alloc (Nat.le_refl _) (rsBlk k (.slice bo bl bc) (.slice tO tl tc) lo hi sl (.slice ko kl kc)))
  have hbk := (HBL.out.block d hdz).trans HBLK.out
  obtain ⟨c0, c1, c2, cz⟩ := blk3 hbk
  have hdz' := lt_of_blk' hbk
  clear hbk
  go_enter Tryz.func28, Tryz.ntmps28
  go_wp2_with fail
  go_quiet (fail)
  go_wp2_with fail
  have hbA : Below w.heap.size w ((w.alloc (rsBlk k (.slice bo bl bc) (.slice tO tl tc) lo hi sl (.slice ko kl kc))).drewN nq) := below_drewN HBL.out _
  have hzA : ((w.alloc (rsBlk k (.slice bo bl bc) (.slice tO tl tc) lo hi sl (.slice ko kl kc))).drewN nq).heap.size = w.heap.size + 1 := by simp
  have hbxA : ((w.alloc (rsBlk k (.slice bo bl bc) (.slice tO tl tc) lo hi sl (.slice ko kl kc))).drewN nq).heap[w.heap.size]? = some (rsBlk k (.slice bo bl bc) (.slice tO tl tc) lo hi sl (.slice ko kl kc)) := by simpa using HBX.out
  generalize (w.alloc (rsBlk k (.slice bo bl bc) (.slice tO tl tc) lo hi sl (.slice ko kl kc))).drewN nq = wA at *
  have HRA : Hid (wA.ownsRow 0 71 7 (.slice ao n c) n (rsCells rs D.sks)) := ownsRow_below HROW.out hbA (fun g hg => ownsRow_lt HROW.out hg)
  have HBA := hid hbA
  have hblkA : wA.heap[d]? = some (rdBlk (room : Int) s (.slice ao n c)) := (hbA.block d hdz).trans HBLK.out
  have hdzA : d < wA.heap.size := lt_of_blk' hblkA
  have HBLKA := hid hblkA
  obtain ⟨d0, d1, d2, dz⟩ := blk3 hblkA
  obtain ⟨b0, b1, b2, b3, b4, b5, b6, bz⟩ := blk7' hbxA
  have hbxz := lt_of_blk' hbxA
  have HZA := hid hzA
  clear c0 c1 c2 cz hbA hblkA hzA hbxA
  go_region_law ((refine step_append_lies _ (by rfl) (.tmp 20) (.tmp 22) 56 (by rfl) 0 71 i0 (.agg #[.int .i64 0, .slice none 0 0, .slice none 0 0, .int .i64 0, .int .i64 0, .bool false, .slice none 0 0]) 7 104 Tryz.underlying56 hi0 hz0 hz1 hz2 rfl (by decide) (.slice ao n c) n (rsCells rs D.sks) (by rfl) (HRA.out.alloc _) ⟨wA.heap.size, 0, none⟩ 1 1 [.int .i64 (k : Int), .slice bo bl bc, .slice tO tl tc, .int .i64 lo, .int .i64 hi, .bool sl, .slice ko kl kc] (by rfl) rfl (seven_new (by simp) _ _ _ _ _ _ _ _) (seven_cell rfl rfl rfl) (by decide) (by unfold maxLen; omega) (by omega) (Nat.zero_le _) (wA.heap.size + 1) (by simp) ?_; intro g2 cap2 w2 hown2 hgrow2 hat2 hlt2; have hq := (hgrow2.block d (by simp; omega) (Ne.symm HNE.out)).trans ((Below.heap_alloc wA _ d hdzA).trans HBLKA.out); obtain ⟨q0, q1, q2, qz⟩ := blk3 hq))
  all_goals
    have hst := HPU.out _ _ _ _ (HBA.out.alloc (by have := HZA.out; omega) _) (by rw [HRC.out]; exact hown2) ⟨hgrow2.os, hgrow2.tape, hgrow2.output, hgrow2.size, hgrow2.block⟩ (hat2.imp id (fun e => by have := HZA.out; omega)) hq
    have HST := hid hst
    clear hst
    go_wp2_with fail
    go_ret2
    refine ⟨?_, HST.out⟩
    simp

set_option maxHeartbeats 400000 in
theorem ropened_full (d : Nat) (k : Nat) (vb vt vk : Value) (lo hi : Int) (sl : Bool) (D : Dk) (w : World) (h : RAt G w d D) (hr : D.room ≤ D.sks.length) :
    Calls Tryz.prog 28 #[.pointer (some ⟨d, 0, none⟩), rsVal k vb vt lo hi sl vk] w fun e w' => e = .returned (.tuple #[.int .i64 0, .int .i64 3]) ∧ Below w.heap.size w w' := by
  obtain ⟨s, va, rs, h⟩ := h
  have hdz := lt_of_blk' h.blk
  obtain ⟨ao, c, rfl, _⟩ := h.form
  have HBL := hid ((Below.refl w.heap.size w).alloc (Nat.le_refl _) (rsBlk k vb vt lo hi sl vk))
  have hbk := (HBL.out.block d hdz).trans h.blk
  obtain ⟨c0, c1, c2, cz⟩ := blk3 hbk
  have hdz' := lt_of_blk' hbk
  generalize D.sks.length = n at *
  generalize D.room = room at *
  clear h hbk
  go_enter Tryz.func28, Tryz.ntmps28
  go_wp2_with fail
  go_quiet (fail)
  go_wp2_with fail
  go_ret2
  exact ⟨rfl, below_drewN HBL.out _⟩

/-- The sketch that Open begins. -/
theorem rsok_begun (w : World) (k : Nat) : RsOk (w.alloc (.cells #[.int .i64 0] 3)) ⟨.slice none 0 0, .slice (some ⟨w.heap.size, 0, none⟩) 1 1, .slice none 0 0, [], 0, 0⟩ (Hd.begun k) :=
  ⟨BagAt.nil _, fun j => by
    have : ((Hd.begun k).sk.lv.getD j Lvl.none) = Lvl.none := by
      match j with
      | 0 => rfl
      | j + 1 => rfl
    rw [this]; exact List.Perm.nil, Ints.single w 0, World.ownsRow_nil _ _ _ _, fun h => absurd rfl h⟩

theorem ropen_arg (d : Nat) (A : Int) (w : World) (h : ¬ (2 ≤ A ∧ A ≤ 64)) :
    Calls Tryz.prog 14 #[.pointer (some ⟨d, 0, none⟩), .int .i64 A] w fun e w' => e = .returned (.tuple #[.int .i64 0, .int .i64 1]) ∧ w' = w := by
  by_cases h1 : A < 2
  · clear h
    go_enter Tryz.func14, Tryz.ntmps14
    go_wp2_with fail
    go_ret2
    exact ⟨rfl, rfl⟩
  · have h2 : 64 < A := by omega
    clear h
    go_enter Tryz.func14, Tryz.ntmps14
    go_wp2_with fail
    go_ret2
    exact ⟨rfl, rfl⟩

set_option maxHeartbeats 1000000 in
theorem ropen_any (d : Nat) (A : Int) (D : Dk) (w : World) (h : RAt G w d D) (hd : LInv D) :
    Calls Tryz.prog 14 #[.pointer (some ⟨d, 0, none⟩), .int .i64 A] w fun e w' => ∃ v c D', e = .returned (.tuple #[.int .i64 v, .int .i64 c]) ∧ RStep G w w' d D' ∧ OpenRel A D v c D' := by
  by_cases hA : ¬ (2 ≤ A ∧ A ≤ 64)
  · exact (ropen_arg d A w hA).mono (fun e w' ⟨he, hw⟩ => ⟨0, 1, D, he, by rw [hw]; exact RStep.of_below h (Below.refl _ _), .inl ⟨rfl, rfl, hA, rfl⟩⟩)
  · have hA' : 2 ≤ A ∧ A ≤ 64 := Decidable.not_not.1 hA
    clear hA
    obtain ⟨k, rfl⟩ : ∃ k : Nat, A = (k : Int) := ⟨A.toNat, by omega⟩
    have hal := below_new_al (w := w) (.cells #[.int .i64 0] 3)
    by_cases hr : D.room ≤ D.sks.length
    · have HF := hid (ropened_full d k (.slice none 0 0) (.slice (some ⟨w.heap.size, 0, none⟩) 1 1) (.slice none 0 0) 0 0 false D _ (h.below hal) hr)
      have HH := hid h
      have HAL := hid hal
      clear h hal
      go_enter Tryz.func14, Tryz.ntmps14
      go_wp2_with fail
      refine HF.out.mono ?_
      rintro e w2 ⟨rfl, hb2⟩
      have HB2 := hid (HAL.out.trans (hb2.mono HAL.out.size))
      clear hb2
      go_wp2_with fail
      go_ret2
      exact ⟨0, 3, D, rfl, RStep.of_below HH.out HB2.out, .inr ⟨by omega, .inl ⟨rfl, rfl, hr, rfl⟩⟩⟩
    · have HF := hid (ropened_any d ⟨.slice none 0 0, .slice (some ⟨w.heap.size, 0, none⟩) 1 1, .slice none 0 0, [], 0, 0⟩ (Hd.begun k) D w _ h hal (rsok_begun w k) (fun b e => by
        rcases e with e | e | e
        · simp [Value.ownBlock] at e
        · simp [Value.ownBlock] at e; subst e; exact .inr (Nat.le_refl _)
        · simp [Value.ownBlock] at e) (by omega) hd.inv.room2)
      have HR : Hid (OpenRel (k : Int) D (D.sks.length : Int) 0 { D with sks := D.sks ++ [Hd.begun k] }) := .inr ⟨by omega, .inr ⟨by omega, rfl, rfl, by simp⟩⟩
      clear h hal
      go_enter Tryz.func14, Tryz.ntmps14
      go_wp2_with fail
      refine HF.out.mono ?_
      rintro e w2 ⟨rfl, hst⟩
      have HST := hid hst
      clear hst
      go_wp2_with fail
      go_ret2
      exact ⟨_, _, _, rfl, HST.out, HR.out⟩

theorem rhas (d : Nat) (A : Int) (D : Dk) (s : ByteArray) (va : Value) (rs : List RRef) (w : World) (h : RIn G w d D s va rs) :
    Calls Tryz.prog 63 #[.pointer (some ⟨d, 0, none⟩), .int .i64 A] w fun e w' => e = .returned (.bool (hasB A D.sks.length)) ∧ w' = w := by
  obtain ⟨ao, c, rfl, _⟩ := h.form
  exact rhas_any d D.sks.length c ao A _ s w h.blk

set_option maxHeartbeats 400000 in
theorem rseal_any (d : Nat) (A : Int) (D : Dk) (w : World) (h : RAt G w d D) :
    Calls Tryz.prog 34 #[.pointer (some ⟨d, 0, none⟩), .int .i64 A] w fun e w' => ∃ c D', e = .returned (.int .i64 c) ∧ RStep G w w' d D' ∧ SealRel A D c D' := by
  have HP := hid (RStep.of_below h (Below.refl _ _))
  obtain ⟨s, va, rs, h⟩ := h
  have HH := hid (rhas d A D s va rs w h)
  cases hs : hasB A D.sks.length with
  | false =>
    rw [hs] at HH
    have HR : Hid (SealRel A D 4 D) := .inl ⟨rfl, hs, rfl⟩
    clear h hs
    go_enter Tryz.func34, Tryz.ntmps34
    go_wp2_with (go_at_call 63; refine HH.out.mono ?_; rintro e w' ⟨rfl, hw⟩; obtain rfl := hw.symm)
    go_ret
    exact ⟨4, D, rfl, HP.out, HR.out⟩
  | true =>
    rw [hs] at HH
    obtain ⟨i, rfl, hi⟩ := hasB_at hs
    obtain ⟨g, c, rfl, hg, q0, q1, q2, q3, q4, q5, q6, qz⟩ := h.cells7 hi
    obtain ⟨c0, c1, c2, cz⟩ := blk3 h.blk
    have hdz := lt_of_blk' h.blk
    have HST := hid (rseal_st h hi)
    have hs1 : (0 : Int) ≤ (i : Int) := by omega
    have hs2 : (i : Int) < (D.sks.length : Int) := by omega
    cases hse : (D.sks.getD i Hd.none).sealed with
    | true =>
      rw [hse] at q5
      have HR : Hid (SealRel (i : Int) D 5 D) := .inr ⟨i, rfl, hi, .inl ⟨rfl, hse, rfl⟩⟩
      clear h hs q0 q1 q2 q3 q4 q6
      generalize D.sks.length = n at *
      go_enter Tryz.func34, Tryz.ntmps34
      go_wp2_with (go_at_call 63; refine HH.out.mono ?_; rintro e w' ⟨rfl, hw⟩; obtain rfl := hw.symm)
      go_ret
      exact ⟨5, D, rfl, HP.out, HR.out⟩
    | false =>
      rw [hse] at q5
      have HR : Hid (SealRel (i : Int) D 0 { D with sks := D.sks.set i { D.sks.getD i Hd.none with sealed := true } }) := .inr ⟨i, rfl, hi, .inr ⟨hse, rfl, rfl⟩⟩
      clear h hs q0 q1 q2 q3 q4 q6
      generalize D.sks.length = n at *
      go_enter Tryz.func34, Tryz.ntmps34
      go_wp2_with (go_at_call 63; refine HH.out.mono ?_; rintro e w' ⟨rfl, hw⟩; obtain rfl := hw.symm)
      go_ret
      exact ⟨0, _, rfl, HST.out, HR.out⟩

end Go.Proofs.YtklicjbpjigfdabGreat
