/- DERIVED. Plain mathematics of the room: so often as a level was thinned, at least its capacity went up; the top level is no higher than the count allows; how many coins are used. -/
import Derived.Test.YtklicjbpjigfdabQ9
import Derived.Test.YtklicjbpjigfdabDMergeW
import Derived.Test.YtklicjbpjigfdabQ7
namespace Go.Proofs.Ytklicjbpjigfdab
open Go.RowKit

theorem capFrom_lo {k t3 t2 : Nat} : ∀ {f c c' : Nat}, c ≤ c' → c' < capFrom k t3 t2 f c → c' < k ∧ c' * t3 < k * t2 := by
  intro f
  induction f with
  | zero => intro c c' h h'; simp [capFrom] at h'; omega
  | succ f ih =>
    intro c c' h h'
    by_cases hs : c < k ∧ c * t3 < k * t2
    · rw [capFrom_step hs] at h'
      by_cases e : c = c'
      · subst e; exact hs
      · exact ih (by omega) h'
    · rw [capFrom_stop hs] at h'; omega
theorem capFrom_end {k t3 t2 : Nat} : ∀ {f c : Nat}, k ≤ c + f → ¬ (capFrom k t3 t2 f c < k ∧ capFrom k t3 t2 f c * t3 < k * t2) := by
  intro f
  induction f with
  | zero => intro c h; simp [capFrom]; omega
  | succ f ih =>
    intro c h
    by_cases hs : c < k ∧ c * t3 < k * t2
    · rw [capFrom_step hs]; exact ih (by omega)
    · rw [capFrom_stop hs]; exact hs
theorem capOf_succ (k d : Nat) : capOf k (d + 1) ≤ capOf k d := by
  apply Nat.le_of_not_lt
  intro hlt
  have h1 := capFrom_lo (capOf_ge k d) (show capOf k d < capFrom k (3 ^ (d + 1)) (2 ^ (d + 1)) k 2 from hlt)
  have h2 := capFrom_end (k := k) (t3 := 3 ^ d) (t2 := 2 ^ d) (f := k) (c := 2) (by omega)
  change ¬ (capOf k d < k ∧ capOf k d * 3 ^ d < k * 2 ^ d) at h2
  apply h2
  refine ⟨h1.1, ?_⟩
  have h3 := h1.2
  rw [Nat.pow_succ, Nat.pow_succ, ← Nat.mul_assoc, ← Nat.mul_assoc] at h3
  generalize capOf k d * 3 ^ d = a at *
  generalize k * 2 ^ d = b at *
  omega
theorem capOf_anti {k d e : Nat} (h : d ≤ e) : capOf k e ≤ capOf k d := by
  induction e with
  | zero => have : d = 0 := by omega
            subst this; exact Nat.le_refl _
  | succ e ih =>
    by_cases he : d = e + 1
    · subst he; exact Nat.le_refl _
    · exact Nat.le_trans (capOf_succ k e) (ih (by omega))

/-- Of each level: so often as it was thinned, at least its capacity went up. -/
def Roomy (k : Nat) : List Lvl → Prop
  | [] => True
  | l :: L => l.times * capOf k L.length ≤ 2 * wsum L ∧ Roomy k L

theorem Roomy.snoc {k : Nat} : ∀ {L : List Lvl}, Roomy k L → Roomy k (L ++ [Lvl.none])
  | [], _ => ⟨by simp [Lvl.none], trivial⟩
  | l :: L, h => ⟨by show l.times * capOf k (L ++ [Lvl.none]).length ≤ 2 * wsum (L ++ [Lvl.none]); rw [wsum_snoc]; exact Nat.le_trans (Nat.mul_le_mul_left _ (capOf_anti (by simp))) h.1, h.2.snoc⟩
theorem setItems_wsum_ge {L : List Lvl} {h : Nat} {X : List Int} (hX : (L.getD h Lvl.none).items.length ≤ X.length) : wsum L ≤ wsum (setItems L h X) := by
  by_cases hh : h < L.length
  · have := setItems_wsum (X := X) hh
    have := Nat.mul_le_mul_left (2 ^ h) hX
    omega
  · rw [show setItems L h X = L from List.set_eq_of_length_le (by omega)]; exact Nat.le_refl _
theorem Roomy.setItems {k : Nat} {X : List Int} : ∀ {L : List Lvl} {h : Nat}, (L.getD h Lvl.none).items.length ≤ X.length → Roomy k L → Roomy k (setItems L h X)
  | [], _, _, _ => by simp [Go.Proofs.Ytklicjbpjigfdab.setItems, Roomy]
  | l :: L, 0, _, h => by simpa [Go.Proofs.Ytklicjbpjigfdab.setItems, Roomy] using h
  | l :: L, j + 1, hX, h => by
    have hX' : (L.getD j Lvl.none).items.length ≤ X.length := by simpa using hX
    have e : Go.Proofs.Ytklicjbpjigfdab.setItems (l :: L) (j + 1) X = l :: Go.Proofs.Ytklicjbpjigfdab.setItems L j X := by simp [Go.Proofs.Ytklicjbpjigfdab.setItems]
    rw [e]
    refine ⟨?_, h.2.setItems hX'⟩
    rw [setItems_length]
    have := setItems_wsum_ge hX'
    have := h.1
    omega
theorem Roomy.with {k : Nat} {x : Int} : ∀ {f w j : Nat} {L : List Lvl}, Roomy k L → Roomy k (withFrom x f w j L) := by
  intro f
  induction f with
  | zero => intro w j L h; exact h
  | succ f ih =>
    intro w j L h
    by_cases h0 : w = 0
    · subst h0; rw [withFrom_zero]; exact h
    · rw [withFrom_step (by omega)]
      refine ih ?_
      have h1 : Roomy k (at1 L j) := by
        unfold at1; split
        · exact h.snoc
        · exact h
      unfold bit1; split
      · exact h1.setItems (by rw [jn_length]; omega)
      · exact h1

theorem grow1_cons (l : Lvl) (L : List Lvl) (h : Nat) : grow1 (l :: L) (h + 1) = l :: grow1 L h := by
  unfold grow1
  by_cases e : h + 1 = L.length
  · rw [if_pos e, if_pos (by simp; omega)]; rfl
  · rw [if_neg e, if_neg (by simp; omega)]
theorem thinL_succ (l : Lvl) (L : List Lvl) (h : Nat) (c : Bool) : thinL (l :: L) (h + 1) c = l :: thinL L h c := by
  simp only [thinL, grow1_cons, setItems, setTimes, List.getD_cons_succ, List.set_cons_succ]
theorem thinL_one (l : Lvl) (c : Bool) : thinL [l] 0 c = [⟨l.items.take (l.items.length % 2), l.times + 1⟩, ⟨jn [] (upOf l.items c), 0⟩] := by
  simp [thinL, grow1, setItems, setTimes, Lvl.none]
theorem thinL_two (l m : Lvl) (L : List Lvl) (c : Bool) : thinL (l :: m :: L) 0 c = ⟨l.items.take (l.items.length % 2), l.times + 1⟩ :: ⟨jn m.items (upOf l.items c), m.times⟩ :: L := by
  simp [thinL, grow1, setItems, setTimes]
theorem roomy_up {t c c' n a b : Nat} (h : t * c ≤ 2 * a) (hc : c' ≤ c) (hn : c < n) (hb : b = a + n / 2) : (t + 1) * c' ≤ 2 * b := by
  have h1 : (t + 1) * c' ≤ (t + 1) * c := Nat.mul_le_mul_left _ hc
  have h2 : (t + 1) * c = t * c + c := Nat.succ_mul t c
  omega
theorem Roomy.thin {k : Nat} {c : Bool} : ∀ {L : List Lvl} {h : Nat}, h < L.length → capOf k (L.length - 1 - h) < (L.getD h Lvl.none).items.length → Roomy k L → Roomy k (thinL L h c)
  | [], _, hh, _, _ => by simp at hh
  | [l], 0, _, hc, h => by
    rw [thinL_one]
    refine ⟨roomy_up h.1 (capOf_anti (Nat.zero_le _)) (show capOf k 0 < l.items.length by simpa using hc) ?_, ⟨by simp, trivial⟩⟩
    simp [wsum, jn_length, upOf_length]
  | l :: m :: L, 0, _, hc, h => by
    rw [thinL_two]
    refine ⟨roomy_up h.1 (Nat.le_refl _) (show capOf k (L.length + 1) < l.items.length by simpa using hc) ?_, h.2⟩
    simp only [wsum, jn_length, upOf_length]
    omega
  | l :: L, j + 1, hh, hc, h => by
    have hj : j < L.length := by simpa using hh
    rw [thinL_succ]
    refine ⟨?_, h.2.thin hj (by simp only [List.length_cons, List.getD_cons_succ] at hc; rw [show L.length - 1 - j = L.length + 1 - 1 - (j + 1) by omega]; exact hc)⟩
    rw [thinL_wsum hj]
    exact Nat.le_trans (Nat.mul_le_mul_left _ (capOf_anti (thinL_length_ge L j c))) h.1
theorem Roomy.settle {k : Nat} : ∀ {cs : List Bool} {u : Nat} {L L' : List Lvl} {u' : Nat}, Roomy k L → settle k cs u L = some (L', u') → Roomy k L' := by
  intro cs
  induction cs with
  | nil => intro u L L' u' h hs; simp only [Go.Proofs.Ytklicjbpjigfdab.settle] at hs; split at hs <;> simp at hs; rw [← hs.1]; exact h
  | cons c cs ih =>
    intro u L L' u' h hs
    simp only [Go.Proofs.Ytklicjbpjigfdab.settle] at hs
    split at hs
    · simp at hs; rw [← hs.1]; exact h
    · rename_i r hr
      obtain ⟨h1, _, h3⟩ := toThinL_some hr
      exact ih (h.thin h1 h3) hs
theorem Roomy.at {k : Nat} : ∀ {L : List Lvl} {j : Nat}, j < L.length → Roomy k L → (L.getD j Lvl.none).times * capOf k (L.length - 1 - j) ≤ 2 * wsum (L.drop (j + 1))
  | [], _, hj, _ => by simp at hj
  | l :: L, 0, _, h => by simpa using h.1
  | l :: L, j + 1, hj, h => by
    have := h.2.at (j := j) (by simpa using hj)
    rw [show L.length - 1 - j = (l :: L).length - 1 - (j + 1) by simp; omega] at this
    simpa using this
theorem Roomy.ssum {k : Nat} : ∀ {L : List Lvl}, Roomy k L → ssum L + wsum L ≤ 2 ^ L.length * wsum L
  | [], _ => by simp [Go.Proofs.Ytklicjbpjigfdab.ssum, wsum]
  | l :: L, h => by
    have h1 := h.2.ssum
    have h2 : l.times ≤ wsum L := by
      have h3 := h.1
      have := Nat.mul_le_mul_left l.times (capOf_ge k L.length)
      omega
    have h4 : l.items.length ≤ 2 ^ (L.length + 1) * l.items.length := Nat.le_mul_of_pos_left _ (Nat.pow_pos (by decide))
    have h5 : 2 ^ (L.length + 1) * (l.items.length + 2 * wsum L) = 2 ^ (L.length + 1) * l.items.length + 4 * (2 ^ L.length * wsum L) := by
      rw [Nat.mul_add, Nat.pow_succ]
      rw [Nat.mul_assoc (2 ^ L.length) 2 (2 * wsum L), ← Nat.mul_assoc 2 2, Nat.mul_left_comm]
    simp only [Go.Proofs.Ytklicjbpjigfdab.ssum, wsum, List.length_cons]
    rw [h5]
    generalize 2 ^ L.length * wsum L = a at *
    omega

/-- The top level is no higher than the count allows. -/
def Tall (L : List Lvl) : Prop := L.length ≤ 1 ∨ 2 ^ (L.length - 1) ≤ wsum L
theorem with_tall {x : Int} : ∀ {f w h : Nat} {L : List Lvl}, h ≤ L.length → (withFrom x f w h L).length = L.length ∨ 2 ^ ((withFrom x f w h L).length - 1) ≤ 2 ^ h * w := by
  intro f
  induction f with
  | zero => intro w h L hh; exact .inl rfl
  | succ f ih =>
    intro w h L hh
    by_cases h0 : w = 0
    · subst h0; rw [withFrom_zero]; exact .inl rfl
    · rw [withFrom_step (by omega)]
      have hl : h < (at1 L h).length := by rw [at1_length]; split <;> omega
      rcases ih (w := w / 2) (h := h + 1) (L := bit1 x w (at1 L h) h) (by rw [bit1_length]; omega) with e | e
      · rw [e, bit1_length, at1_length]
        split
        · right
          rename_i e'
          rw [← e', Nat.add_sub_cancel]
          exact Nat.le_mul_of_pos_right _ (by omega)
        · exact .inl rfl
      · right
        refine Nat.le_trans e ?_
        rw [Nat.pow_succ, Nat.mul_assoc]
        exact Nat.mul_le_mul_left _ (by omega)
theorem Tall.settle {k : Nat} : ∀ {cs : List Bool} {u : Nat} {L L' : List Lvl} {u' : Nat}, Tall L → settle k cs u L = some (L', u') → Tall L' := by
  intro cs
  induction cs with
  | nil => intro u L L' u' h hs; simp only [Go.Proofs.Ytklicjbpjigfdab.settle] at hs; split at hs <;> simp at hs; rw [← hs.1]; exact h
  | cons c cs ih =>
    intro u L L' u' h hs
    simp only [Go.Proofs.Ytklicjbpjigfdab.settle] at hs
    split at hs
    · simp at hs; rw [← hs.1]; exact h
    · rename_i r hr
      obtain ⟨h1, h2, _⟩ := toThinL_some hr
      refine ih ?_ hs
      unfold Tall
      rw [thinL_wsum h1, thinL_length]
      split
      · right
        rename_i e
        rw [Nat.add_sub_cancel, ← e, Nat.pow_succ]
        have h3 := wsum_at h1
        have := Nat.mul_le_mul_left (2 ^ r) h2
        omega
      · exact h

/-- How many coins are used: as many as there are thinnings; no more than there are items too many. -/
theorem settle_tsum {k : Nat} : ∀ {cs : List Bool} {u : Nat} {L L' : List Lvl} {u' : Nat}, settle k cs u L = some (L', u') → tsum L' + u = tsum L + u' := by
  intro cs
  induction cs with
  | nil => intro u L L' u' hs; simp only [settle] at hs; split at hs <;> simp at hs; rw [← hs.1, ← hs.2]
  | cons c cs ih =>
    intro u L L' u' hs
    simp only [settle] at hs
    split at hs
    · simp at hs; rw [← hs.1, ← hs.2]
    · rename_i r hr
      have := ih hs
      have := thinL_tsum (c := c) (toThinL_some hr).1
      omega
theorem settle_few {k : Nat} : ∀ {cs : List Bool} {u m : Nat} {L L' : List Lvl} {u' : Nat}, nsum L ≤ capSum k L.length + m → settle k cs u L = some (L', u') → u' ≤ u + m := by
  intro cs
  induction cs with
  | nil => intro u m L L' u' _ hs; simp only [settle] at hs; split at hs <;> simp at hs; omega
  | cons c cs ih =>
    intro u m L L' u' hm hs
    simp only [settle] at hs
    split at hs
    · simp at hs; omega
    · rename_i r hr
      obtain ⟨h1, h2, _⟩ := toThinL_some hr
      have h3 := thinL_nsum (c := c) h1
      have h4 := capSum_mono (k := k) (thinL_length_ge L r c)
      have h5 : capSum k L.length < nsum L := by
        unfold toThinL at hr
        split at hr
        · cases hr
        · omega
      have := ih (m := m - 1) (by omega) hs
      omega

end Go.Proofs.Ytklicjbpjigfdab

/- DERIVED. Capacities when K falls; a Merge wants at most 230 coins. -/
namespace Go.Proofs.Ytklicjbpjigfdab
open Go.RowKit

theorem capOf_mono {k k' d : Nat} (h : k' ≤ k) : capOf k' d ≤ capOf k d := by
  apply Nat.le_of_not_lt
  intro hlt
  have h1 := capFrom_lo (capOf_ge k d) (show capOf k d < capFrom k' (3 ^ d) (2 ^ d) k' 2 from hlt)
  have h2 := capFrom_end (k := k) (t3 := 3 ^ d) (t2 := 2 ^ d) (f := k) (c := 2) (by omega)
  change ¬ (capOf k d < k ∧ capOf k d * 3 ^ d < k * 2 ^ d) at h2
  apply h2
  exact ⟨by omega, Nat.lt_of_lt_of_le h1.2 (Nat.mul_le_mul_right _ h)⟩
theorem capSum_monoK {k k' : Nat} (h : k' ≤ k) : ∀ n, capSum k' n ≤ capSum k n
  | 0 => Nat.le_refl _
  | n + 1 => by have := capSum_monoK h n; have := capOf_mono (d := n) h; simp only [capSum]; omega
theorem capSum_230 : capSum 64 29 = 230 := by decide +kernel

theorem Roomy.mono {k k' : Nat} (h : k' ≤ k) : ∀ {L : List Lvl}, Roomy k L → Roomy k' L
  | [], _ => trivial
  | _ :: _, hr => ⟨Nat.le_trans (Nat.mul_le_mul_left _ (capOf_mono h)) hr.1, hr.2.mono h⟩
theorem Roomy.merge {k : Nat} : ∀ {T L : List Lvl}, Roomy k L → Roomy k T → Roomy k (mergeL L T)
  | [], L, h, _ => by rw [mergeL_nil]; exact h
  | t :: T, [], h, hT => by
    refine ⟨?_, Roomy.merge (T := T) (L := []) trivial hT.2⟩
    rw [mergeL_length, mergeL_wsum]
    have := hT.1
    simp [wsum]
    exact this
  | t :: T, l :: L, h, hT => by
    refine ⟨?_, Roomy.merge h.2 hT.2⟩
    rw [mergeL_length, mergeL_wsum]
    have h1 := h.1
    have h2 := hT.1
    have c1 : capOf k (max L.length T.length) ≤ capOf k L.length := capOf_anti (Nat.le_max_left _ _)
    have c2 : capOf k (max L.length T.length) ≤ capOf k T.length := capOf_anti (Nat.le_max_right _ _)
    have m1 := Nat.mul_le_mul_left l.times c1
    have m2 := Nat.mul_le_mul_left t.times c2
    show (l.times + t.times) * _ ≤ _
    rw [Nat.add_mul]
    omega
/-- A Merge wants at most 230 coins. -/
theorem merge_few {a b : Hd} (ha : a.Ok) (hb : b.Ok) (sa : nsum a.sk.lv ≤ capSum a.sk.k a.sk.lv.length) (sb : nsum b.sk.lv ≤ capSum b.sk.k b.sk.lv.length) : nsum (mgL a b) ≤ capSum (mgK a b) (mgL a b).length + 230 := by
  have e2 : (mgL a b).length = max a.sk.lv.length b.sk.lv.length := mergeL_length _ _
  have e5 : nsum (mgL a b) = nsum a.sk.lv + nsum b.sk.lv := mergeL_nsum _ _
  have ca : capSum a.sk.k a.sk.lv.length ≤ 230 := by
    rw [← capSum_230]; exact Nat.le_trans (capSum_monoK ha.k2 _) (capSum_mono ha.len)
  have cb : capSum b.sk.k b.sk.lv.length ≤ 230 := by
    rw [← capSum_230]; exact Nat.le_trans (capSum_monoK hb.k2 _) (capSum_mono hb.len)
  rw [e2, e5]
  unfold mgK mergeK
  split
  · have := capSum_mono (k := b.sk.k) (Nat.le_max_right a.sk.lv.length b.sk.lv.length); omega
  · have := capSum_mono (k := a.sk.k) (Nat.le_max_left a.sk.lv.length b.sk.lv.length); omega

end Go.Proofs.Ytklicjbpjigfdab

/- DERIVED. What Seal and Take do to the desk in memory; the walks of Seal and took. -/
namespace Go.Proofs.Ytklicjbpjigfdab
open Go.RowKit
attribute [local go_sem ↓] Go.wp_at_zero Go.wp_at_succ
variable {F : Nat → Prop}

theorem hdCells_setTk : ∀ (rs : List Ref) (hs : List Hd) (i : Nat) (v : Value) (t : List (Nat × Nat)), rs.length = hs.length → i < hs.length →
    hdCells (rs.set i { rs.getD i Ref.none with tk := v }) (hs.set i { hs.getD i Hd.none with taken := t }) = (hdCells rs hs).set (i * 6 + 5) v := by
  intro rs
  induction rs with
  | nil => intro hs i v t h hi; simp at h; omega
  | cons a rs ih =>
    intro hs i v t h hi
    cases hs with
    | nil => simp at hi
    | cons y hs =>
      cases i with
      | zero => simp [hdCells, hdCell]
      | succ i =>
        have := ih hs i v t (by simpa using h) (by simpa using hi)
        simp only [List.set_cons_succ, hdCells, List.getD_cons_succ, this]
        simp only [hdCell, List.cons_append, List.nil_append]
        rw [show (i + 1) * 6 + 5 = i * 6 + 5 + 6 by omega]
        rfl
theorem hdCells_seal : ∀ (rs : List Ref) (hs : List Hd) (i : Nat) (b : Bool), rs.length = hs.length → i < hs.length →
    hdCells rs (hs.set i { hs.getD i Hd.none with sealed := b }) = (hdCells rs hs).set (i * 6 + 4) (.bool b) := by
  intro rs
  induction rs with
  | nil => intro hs i b h hi; simp at h; omega
  | cons a rs ih =>
    intro hs i b h hi
    cases hs with
    | nil => simp at hi
    | cons y hs =>
      cases i with
      | zero => simp [hdCells, hdCell]
      | succ i =>
        have := ih hs i b (by simpa using h) (by simpa using hi)
        simp only [List.set_cons_succ, hdCells, List.getD_cons_succ, this]
        simp only [hdCell, List.cons_append, List.nil_append]
        rw [show (i + 1) * 6 + 4 = i * 6 + 4 + 6 by omega]
        rfl

/-- The sketch is sealed: one cell is stored. -/
theorem DeskIn.seal {w : World} {d gk c i : Nat} {D : Dk} {vt : Value} {rs : List Ref} (b : Bool) (h : DeskIn F w d D vt (.slice (some ⟨gk, 0, none⟩) D.sks.length c) rs) (hi : i < D.sks.length) :
    DeskIn F (w.setCell ⟨gk, i * 6 + 4, none⟩ (.bool b)) d { D with sks := D.sks.set i { D.sks.getD i Hd.none with sealed := b } } vt (.slice (some ⟨gk, 0, none⟩) D.sks.length c) rs := by
  obtain ⟨ck, hck⟩ := ownsRow_blk h.row (g := gk) rfl
  have hother : ∀ x, x ≠ gk → (w.setCell ⟨gk, i * 6 + 4, none⟩ (.bool b)).heap[x]? = w.heap[x]? := fun x hx => Below.heap_setCell _ _ _ _ hx
  have hkind : ∀ (b : Nat) (cc : Array Value) (t : TypeId) (fr : Nat × Nat), w.heap[b]? = some (.cells cc t fr) → t ≠ 80 → b ≠ gk := by
    intro b cc t fr hb ht e
    subst e
    rw [hck] at hb; cases hb; exact ht rfl
  have hrow := h.row.stored (i * 6 + 4) (.bool b)
  have hcs := hdCells_seal rs D.sks i b h.len hi
  have hat : ∀ j, ((D.sks.set i { D.sks.getD i Hd.none with sealed := b }).getD j Hd.none).sk = (D.sks.getD j Hd.none).sk ∧ ((D.sks.set i { D.sks.getD i Hd.none with sealed := b }).getD j Hd.none).taken = (D.sks.getD j Hd.none).taken := by
    intro j
    by_cases e : j = i
    · subst e; simp [List.getD, hi]
    · simp [List.getD, Ne.symm e]
  refine ⟨(hother d (hkind _ _ _ _ h.blk (by decide))).trans h.blk, h.fd, ownsRow_block h.tp (fun b e => ?_), h.ftp, ?_, h.frow, by simp [h.len], fun j hj => ?_, fun j hj => ?_, fun b e => by simp only [setCell_size]; exact h.flt b e, fun j hj => ?_, fun j hj b e => ?_, fun a j b ha hj e1 e2 => ?_⟩
  · obtain ⟨cc, hc⟩ := h.tp.kind e
    exact hother b (hkind _ _ _ _ hc (by decide))
  · simp only [List.length_set]
    rw [hcs]
    exact hrow.1
  · simp only [List.length_set] at hj
    rw [(hat j).1]
    refine (h.lv j hj).block (fun b e => hother b ?_)
    rcases e with rfl | ⟨cc, hc⟩
    · obtain ⟨cc, hc⟩ := (h.lv j hj).blk; exact hkind _ _ _ _ hc (by decide)
    · exact hkind _ _ _ _ hc (by decide)
  · simp only [List.length_set] at hj
    exact h.flv j hj
  · simp only [List.length_set] at hj
    rw [(hat j).2]
    refine ownsRow_block (h.tk j hj) (fun b e => hother b ?_)
    obtain ⟨cc, hc⟩ := ownsRow_blk (h.tk j hj) e
    exact hkind _ _ _ _ hc (by decide)
  · simp only [List.length_set] at hj
    exact h.ftk j hj b e
  · simp only [List.length_set] at ha hj
    exact h.dtk a j b ha hj e1 e2

theorem tkCells_snoc : ∀ (l : List (Nat × Nat)) (p : Nat × Nat), tkCells (l ++ [p]) = tkCells l ++ [.int .i64 (p.1 : Int), .int .i64 (p.2 : Int)]
  | [], _ => rfl
  | x :: l, p => by simp [tkCells, tkCells_snoc l p]
theorem tkCells_length : ∀ l : List (Nat × Nat), (tkCells l).length = l.length * 2
  | [] => rfl
  | x :: l => by simp only [tkCells, List.length_cons, tkCells_length l]; omega

/-- A report more: its row has grown, and the sketch holds the new row. -/
theorem DeskIn.report {w wx w2 : World} {d gk c i g2 cap2 m : Nat} {D : Dk} {vt : Value} {rs : List Ref} {p : Nat × Nat} (h : DeskIn F w d D vt (.slice (some ⟨gk, 0, none⟩) D.sks.length c) rs) (hi : i < D.sks.length) (hx : Below w.heap.size w wx)
    (hm : (D.sks.getD i Hd.none).taken.length = m) (hown : w2.ownsRow 0 153 2 (.slice (some ⟨g2, 0, none⟩) (m + 1) cap2) (m + 1) (tkCells (D.sks.getD i Hd.none).taken ++ [.int .i64 (p.1 : Int), .int .i64 (p.2 : Int)]))
    (hgrow : wx.grownBy w2 (rs.getD i Ref.none).tk.ownBlock) (hat : (rs.getD i Ref.none).tk.ownBlock = some g2 ∨ w.heap.size ≤ g2) :
    DeskStep F w (w2.setCell ⟨gk, i * 6 + 5, none⟩ (.slice (some ⟨g2, 0, none⟩) (m + 1) cap2)) d { D with sks := D.sks.set i { D.sks.getD i Hd.none with taken := (D.sks.getD i Hd.none).taken ++ [p] } } := by
  obtain ⟨ck, hck⟩ := ownsRow_blk h.row (g := gk) rfl
  have hsz : w.heap.size ≤ w2.heap.size := Nat.le_trans hx.size hgrow.size
  have hk2 : ∀ b, b < w.heap.size → (rs.getD i Ref.none).tk.ownBlock ≠ some b → w2.heap[b]? = w.heap[b]? := fun b hb hn => by
    rw [hgrow.block b (Nat.lt_of_lt_of_le hb hx.size) (fun e => hn e.symm), hx.block b hb]
  have hk3 : ∀ b, b < w.heap.size → (rs.getD i Ref.none).tk.ownBlock ≠ some b → b ≠ gk → (w2.setCell ⟨gk, i * 6 + 5, none⟩ (.slice (some ⟨g2, 0, none⟩) (m + 1) cap2)).heap[b]? = w.heap[b]? := fun b hb hn hg => by
    rw [Below.heap_setCell _ _ _ _ hg, hk2 b hb hn]
  have hkt : ∀ (b : Nat) (cc : Array Value) (t : TypeId) (fr : Nat × Nat), w.heap[b]? = some (.cells cc t fr) → t ≠ 153 → (rs.getD i Ref.none).tk.ownBlock ≠ some b := by
    intro b cc t fr hb ht e
    obtain ⟨c', hc'⟩ := ownsRow_blk (h.tk i hi) e
    rw [hc'] at hb; cases hb; exact ht rfl
  have hkg : ∀ (b : Nat) (cc : Array Value) (t : TypeId) (fr : Nat × Nat), w.heap[b]? = some (.cells cc t fr) → t ≠ 80 → b ≠ gk := by
    intro b cc t fr hb ht e
    subst e
    rw [hck] at hb; cases hb; exact ht rfl
  have hkeep : ∀ (b : Nat) (cc : Array Value) (t : TypeId) (fr : Nat × Nat), w.heap[b]? = some (.cells cc t fr) → t ≠ 153 → t ≠ 80 → (w2.setCell ⟨gk, i * 6 + 5, none⟩ (.slice (some ⟨g2, 0, none⟩) (m + 1) cap2)).heap[b]? = w.heap[b]? := fun b cc t fr hb h1 h2 => hk3 b (lt_of_blk' hb) (hkt b cc t fr hb h1) (hkg b cc t fr hb h2)
  have hg2 : g2 ≠ gk := by
    intro e
    obtain ⟨c', hc'⟩ := ownsRow_blk hown (g := g2) rfl
    subst e
    rcases hat with e | e
    · exact hkt _ _ _ _ hck (by decide) e
    · have := lt_of_blk' hck; omega
  have hrow2 : w2.ownsRow 0 80 6 (.slice (some ⟨gk, 0, none⟩) D.sks.length c) D.sks.length (hdCells rs D.sks) := ownsRow_block h.row (fun b e => by
    simp [Value.ownBlock] at e; subst e
    exact hk2 _ (lt_of_blk' hck) (hkt _ _ _ _ hck (by decide)))
  have hrow := hrow2.stored (i * 6 + 5) (.slice (some ⟨g2, 0, none⟩) (m + 1) cap2)
  have hcs := hdCells_setTk rs D.sks i (.slice (some ⟨g2, 0, none⟩) (m + 1) cap2) ((D.sks.getD i Hd.none).taken ++ [p]) h.len hi
  have hl := h.len
  have hatD : ∀ j, j ≠ i → (D.sks.set i { D.sks.getD i Hd.none with taken := (D.sks.getD i Hd.none).taken ++ [p] }).getD j Hd.none = D.sks.getD j Hd.none := fun j e => by simp [List.getD, Ne.symm e]
  have hatI : (D.sks.set i { D.sks.getD i Hd.none with taken := (D.sks.getD i Hd.none).taken ++ [p] }).getD i Hd.none = { D.sks.getD i Hd.none with taken := (D.sks.getD i Hd.none).taken ++ [p] } := by simp [List.getD, hi]
  have hrsD : ∀ j, j ≠ i → (rs.set i { rs.getD i Ref.none with tk := .slice (some ⟨g2, 0, none⟩) (m + 1) cap2 }).getD j Ref.none = rs.getD j Ref.none := fun j e => by simp [List.getD, Ne.symm e]
  have hrsI : (rs.set i { rs.getD i Ref.none with tk := .slice (some ⟨g2, 0, none⟩) (m + 1) cap2 }).getD i Ref.none = { rs.getD i Ref.none with tk := .slice (some ⟨g2, 0, none⟩) (m + 1) cap2 } := by simp [List.getD, hl, hi]
  have hG : ∀ b, F b → (F b ∨ w.heap.size ≤ b) ∧ b < w2.heap.size := fun b hb => ⟨.inl hb, Nat.lt_of_lt_of_le (h.flt b hb) hsz⟩
  have hlv : ∀ j, j < D.sks.length → LvAt (fun b => (F b ∨ w.heap.size ≤ b) ∧ b < w2.heap.size) (w2.setCell ⟨gk, i * 6 + 5, none⟩ (.slice (some ⟨g2, 0, none⟩) (m + 1) cap2)) (rs.getD j Ref.none).g (rs.getD j Ref.none).cap (rs.getD j Ref.none).vs (D.sks.getD j Hd.none).sk.lv := by
    intro j hj
    refine LvAt.mono ((h.lv j hj).block (fun b e => ?_)) (fun b hb _ => hG b hb)
    rcases e with rfl | ⟨cc, hc⟩
    · obtain ⟨cc, hc⟩ := (h.lv j hj).blk; exact hkeep _ _ _ _ hc (by decide) (by decide)
    · exact hkeep _ _ _ _ hc (by decide) (by decide)
  refine ⟨fun b => (F b ∨ w.heap.size ≤ b) ∧ b < w2.heap.size, ⟨vt, .slice (some ⟨gk, 0, none⟩) D.sks.length c, rs.set i { rs.getD i Ref.none with tk := .slice (some ⟨g2, 0, none⟩) (m + 1) cap2 }, ?_⟩, fun b hb => hb.1, ?_⟩
  · refine ⟨(hkeep _ _ _ _ h.blk (by decide) (by decide)).trans h.blk, hG _ h.fd, ownsRow_block h.tp (fun b e => ?_), fun b e => hG _ (h.ftp b e), ?_, fun b e => hG _ (h.frow b e), by simp [h.len], fun j hj => ?_, fun j hj => ?_, fun b e => by simp only [setCell_size]; exact e.2, fun j hj => ?_, fun j hj b e => ?_, fun a j b ha hj e1 e2 => ?_⟩
    · obtain ⟨cc, hc⟩ := h.tp.kind e
      exact hkeep _ _ _ _ hc (by decide) (by decide)
    · simp only [List.length_set]
      rw [hcs]
      exact hrow.1
    · simp only [List.length_set] at hj
      by_cases e : j = i
      · subst e
        rw [hrsI, hatI]
        exact hlv j hj
      · rw [hrsD j e, hatD j e]
        exact hlv j hj
    · simp only [List.length_set] at hj
      by_cases e : j = i
      · subst e
        rw [hrsI]
        exact hG _ (h.flv j hj)
      · rw [hrsD j e]
        exact hG _ (h.flv j hj)
    · simp only [List.length_set] at hj
      by_cases e : j = i
      · subst e
        rw [hrsI, hatI]
        show World.ownsRow _ _ _ _ _ ((D.sks.getD j Hd.none).taken ++ [p]).length (tkCells ((D.sks.getD j Hd.none).taken ++ [p]))
        rw [tkCells_snoc, List.length_append, hm]
        exact ownsRow_block hown (fun b e => by simp [Value.ownBlock] at e; subst e; exact Below.heap_setCell _ _ _ _ hg2)
      · rw [hrsD j e, hatD j e]
        refine ownsRow_block (h.tk j hj) (fun b e' => ?_)
        obtain ⟨cc, hc⟩ := ownsRow_blk (h.tk j hj) e'
        exact hk3 b (lt_of_blk' hc) (fun e2 => e (h.dtk j i b hj hi e' e2)) (hkg _ _ _ _ hc (by decide))
    · simp only [List.length_set] at hj
      by_cases e9 : j = i
      · subst e9
        rw [hrsI] at e
        simp [Value.ownBlock] at e
        subst e
        refine ⟨?_, ownsRow_lt hown rfl⟩
        rcases hat with e | e
        · exact .inl (h.ftk j hj _ e)
        · exact .inr e
      · rw [hrsD j e9] at e
        exact hG _ (h.ftk j hj b e)
    · simp only [List.length_set] at ha hj
      have hside : ∀ j, j ≠ i → j < D.sks.length → (rs.getD j Ref.none).tk.ownBlock ≠ some g2 := by
        intro j e hj e'
        rcases hat with e2 | e2
        · exact e (h.dtk j i g2 hj hi e' e2)
        · have := ownsRow_lt (h.tk j hj) e'; omega
      by_cases ea : a = i
      · by_cases ej : j = i
        · omega
        · subst ea
          rw [hrsI] at e1
          rw [hrsD j ej] at e2
          simp [Value.ownBlock] at e1
          subst e1
          exact absurd e2 (hside j ej hj)
      · rw [hrsD a ea] at e1
        by_cases ej : j = i
        · subst ej
          rw [hrsI] at e2
          simp [Value.ownBlock] at e2
          subst e2
          exact absurd e1 (hside a ea ha)
        · rw [hrsD j ej] at e2
          exact h.dtk a j b ha hj e1 e2
  · refine Fr.set ⟨hgrow.os.trans hx.os, hgrow.tape.trans hx.tape, hgrow.output.trans hx.output, hsz, fun b hb hn => ?_⟩ (fun _ => h.frow gk rfl) _
    exact hk2 b hb (fun e => hn (h.ftk i hi b e))

set_option maxHeartbeats 400000 in
theorem dseal_no (d : Nat) (D : Dk) (s : Int) (w : World) (h : DeskAt F w d D) (hs : hasB s D.sks.length = false) :
    Calls Try.prog 55 #[.pointer (some ⟨d, 0, none⟩), .int .i64 s] w fun e w' => e = .returned (.int .i64 4) ∧ w' = w := by
  obtain ⟨vt, vk, rs, h⟩ := h
  obtain ⟨ao, c, rfl, _⟩ := h.vkForm
  obtain ⟨_, _, c2, _⟩ := blk3 h.blk
  have HH := hid (has_any d s _ _ _ _ c2)
  rw [hs] at HH
  clear h
  go_enter Try.func55, Try.ntmps55
  go_wp2_with (go_at_call 32; refine HH.out.mono ?_; rintro e w' ⟨rfl, rfl⟩)
  go_ret
  exact ⟨rfl, rfl⟩

set_option maxHeartbeats 400000 in
theorem dseal_twice (d i : Nat) (D : Dk) (w : World) (h : DeskAt F w d D) (hi : i < D.sks.length) (hs : (D.sks.getD i Hd.none).sealed = true) :
    Calls Try.prog 55 #[.pointer (some ⟨d, 0, none⟩), .int .i64 (i : Int)] w fun e w' => e = .returned (.int .i64 5) ∧ w' = w := by
  obtain ⟨vt, vk, rs, h⟩ := h
  obtain ⟨g, c, rfl, hg, q0, q1, q2, q3, q4⟩ := h.cells5 hi
  obtain ⟨_, _, c2, _⟩ := blk3 h.blk
  have HH := hid (has_any d (i : Int) _ _ _ _ c2)
  rw [hasB_nat hi] at HH
  rw [hs] at q4
  have hs1 : (0 : Int) ≤ (i : Int) := by omega
  have hs2 : (i : Int) < (D.sks.length : Int) := by omega
  clear h q0 q1 q2 q3
  generalize D.sks.length = n at *
  go_enter Try.func55, Try.ntmps55
  go_wp2_with (go_at_call 32; refine HH.out.mono ?_; rintro e w' ⟨rfl, rfl⟩)
  go_ret
  exact ⟨rfl, rfl⟩

set_option maxHeartbeats 400000 in
theorem dseal_any (d i : Nat) (D : Dk) (w : World) (h : DeskAt F w d D) (hi : i < D.sks.length) (hs : (D.sks.getD i Hd.none).sealed = false) :
    Calls Try.prog 55 #[.pointer (some ⟨d, 0, none⟩), .int .i64 (i : Int)] w fun e w' => e = .returned (.int .i64 0) ∧ DeskStep F w w' d { D with sks := D.sks.set i { D.sks.getD i Hd.none with sealed := true } } := by
  obtain ⟨vt, vk, rs, h⟩ := h
  obtain ⟨g, c, rfl, hg, q0, q1, q2, q3, q4⟩ := h.cells5 hi
  obtain ⟨_, _, c2, _⟩ := blk3 h.blk
  have HH := hid (has_any d (i : Int) _ _ _ _ c2)
  rw [hasB_nat hi] at HH
  rw [hs] at q4
  have hfr : ∀ o, w.frozen? ⟨g, o, none⟩ = false := by
    intro o
    obtain ⟨cc, hc⟩ := ownsRow_blk h.row (g := g) rfl
    simp [World.frozen?, hc]
  have HST : Hid (DeskStep F w (w.setCell ⟨g, i * 6 + 4, none⟩ (.bool true)) d { D with sks := D.sks.set i { D.sks.getD i Hd.none with sealed := true } }) := ⟨F, ⟨_, _, _, h.seal true hi⟩, fun b hb => .inl hb, (Fr.refl _ w).set (fun _ => h.frow g rfl) _⟩
  have hs1 : (0 : Int) ≤ (i : Int) := by omega
  have hs2 : (i : Int) < (D.sks.length : Int) := by omega
  clear h q0 q1 q2 q3 hs
  generalize hDD : ({ D with sks := D.sks.set i { D.sks.getD i Hd.none with sealed := true } } : Dk) = DD at *
  clear hDD
  generalize D.sks.length = n at *
  go_enter Try.func55, Try.ntmps55
  go_wp2_with (go_at_call 32; refine HH.out.mono ?_; rintro e w' ⟨rfl, rfl⟩)
  go_ret
  exact ⟨rfl, HST.out⟩

end Go.Proofs.Ytklicjbpjigfdab

/- DERIVED. The walks of took and of Take. -/
namespace Go.Proofs.Ytklicjbpjigfdab
open Go.RowKit
attribute [local go_sem ↓] Go.wp_at_zero Go.wp_at_succ
variable {F : Nat → Prop}

/-- Was this report taken? -/
def tookB (l : List (Nat × Nat)) (a b : Int) : Bool := l.any (fun p => (p.1 : Int) == a && (p.2 : Int) == b)
theorem tookB_at {l : List (Nat × Nat)} {a b : Int} (h : tookB l a b = false) {j : Nat} (hj : j < l.length) : ((((l.getD j (0, 0)).1 : Int) == a) && (((l.getD j (0, 0)).2 : Int) == b)) = false := by
  unfold tookB at h
  rw [List.any_eq_false] at h
  have := h (l.getD j (0, 0)) (by simp [List.getD, hj])
  simpa using this
theorem tkCells_at : ∀ (l : List (Nat × Nat)) (j : Nat), j < l.length → (tkCells l)[j * 2]? = some (.int .i64 ((l.getD j (0, 0)).1 : Int)) ∧ (tkCells l)[j * 2 + 1]? = some (.int .i64 ((l.getD j (0, 0)).2 : Int))
  | [], j, h => by simp at h
  | p :: l, 0, _ => ⟨rfl, rfl⟩
  | p :: l, j + 1, h => by
    have := tkCells_at l j (by simpa using h)
    rw [show (j + 1) * 2 = j * 2 + 2 by omega]
    exact this
theorem tookB_take {l : List (Nat × Nat)} {a b : Int} {j : Nat} (hj : j < l.length) : tookB (l.take (j + 1)) a b = (tookB (l.take j) a b || ((((l.getD j (0, 0)).1 : Int) == a) && (((l.getD j (0, 0)).2 : Int) == b))) := by
  unfold tookB
  rw [List.take_succ_eq_append_getElem hj, List.any_append]
  simp [List.getD, hj]
theorem tookB_of {l : List (Nat × Nat)} {a b : Int} {j : Nat} (hj : j < l.length) (h : ((((l.getD j (0, 0)).1 : Int) == a) && (((l.getD j (0, 0)).2 : Int) == b)) = true) : tookB l a b = true := by
  unfold tookB
  rw [List.any_eq_true]
  exact ⟨l.getD j (0, 0), by simp [List.getD, hj], h⟩

set_option maxHeartbeats 1000000 in
set_option maxRecDepth 100000 in
theorem took_any (k g ln cap : Nat) (lo hi : Int) (sl : Bool) (tk : Value) (l : List (Nat × Nat)) (a b : Int) (w : World) (h : w.ownsRow 0 153 2 tk l.length (tkCells l)) (hl : l.length ≤ 1099511627776) :
    Calls Try.prog 98 #[.agg #[.int .i64 (k : Int), .slice (some ⟨g, 0, none⟩) ln cap, .int .i64 lo, .int .i64 hi, .bool sl, tk], .agg #[.int .i64 a, .int .i64 b]] w fun e w' => e = .returned (.bool (tookB l a b)) ∧ Below w.heap.size w w' := by
  have HL := hid h
  have hform : ∃ ao c, tk = .slice ao l.length c ∧ ∀ j, j < l.length → ∃ g, ao = some ⟨g, 0, none⟩ ∧ g < w.heap.size ∧ w.cell? ⟨g, j * 2, none⟩ = some (.int .i64 ((l.getD j (0, 0)).1 : Int)) ∧ w.cell? ⟨g, j * 2 + 1, none⟩ = some (.int .i64 ((l.getD j (0, 0)).2 : Int)) := by
    have h' := h
    rcases h.2 with ⟨e, hn⟩ | ⟨g, cap, cur, e, hg, hh, hnc, hcm, hcs, ht⟩
    · refine ⟨none, 0, by rw [e, hn], fun j hj => by omega⟩
    · refine ⟨some ⟨g, 0, none⟩, cap, e, fun j hj => ⟨g, rfl, ownsRow_lt h' (by rw [e]; rfl), ?_, ?_⟩⟩
      · rw [e] at h'
        exact ownsRow_cell h' (tkCells_at l j hj).1
      · rw [e] at h'
        exact ownsRow_cell h' (tkCells_at l j hj).2
  obtain ⟨ao, c, rfl, hc⟩ := hform
  generalize hn : l.length = n at *
  have HN := hid hn
  have HC := hid hc
  clear h hc hn HL
  go_enter Try.func98, Try.ntmps98
  go_wp2_with fail
  have hbA : Below w.heap.size w ((w.alloc (.cells #[.int .i64 (k : Int), .slice (some ⟨g, 0, none⟩) ln cap, .int .i64 lo, .int .i64 hi, .bool sl, .slice ao n c] 80)).alloc (.cells #[.int .i64 a, .int .i64 b] 153)) := ((Below.refl w.heap.size w).alloc (Nat.le_refl _) _).alloc (by simp) _
  have hpb : ((w.alloc (.cells #[.int .i64 (k : Int), .slice (some ⟨g, 0, none⟩) ln cap, .int .i64 lo, .int .i64 hi, .bool sl, .slice ao n c] 80)).alloc (.cells #[.int .i64 a, .int .i64 b] 153)).heap[w.heap.size + 1]? = some (.cells #[.int .i64 a, .int .i64 b] 153 (0, 0)) := by
    have := heap_alloc_new (w.alloc (.cells #[.int .i64 (k : Int), .slice (some ⟨g, 0, none⟩) ln cap, .int .i64 lo, .int .i64 hi, .bool sl, .slice ao n c] 80)) (.cells #[.int .i64 a, .int .i64 b] 153 (0, 0))
    simpa using this
  go_loopw [10] (fun si wr => ∃ j, j ≤ n ∧ si = .int .i64 (j : Int) ∧ Hid (tookB (l.take j) a b = false) ∧ Hid (Below w.heap.size w wr) ∧ Hid (wr.heap[w.heap.size + 1]? = some (.cells #[.int .i64 a, .int .i64 b] 153 (0, 0)))) (fun si _ => n - (intOf si).toNat)
  case atStart => exact ⟨0, Nat.zero_le _, rfl, by simp [tookB, Hid], hbA, hpb⟩
  case round =>
    obtain ⟨j, hj, rfl, Ht, Hb, Hp⟩ := hrel
    have hwz := Hb.out.size
    obtain ⟨p0, p1, pz⟩ := blk2 Hp.out
    have hpz := lt_of_blk' Hp.out
    by_cases hlt : j < n
    · obtain ⟨g, rfl, hgz, q0, q1⟩ := HC.out j hlt
      have r0 := (Hb.out.cell (p := ⟨g, j * 2, none⟩) hgz).trans q0
      have r1 := (Hb.out.cell (p := ⟨g, j * 2 + 1, none⟩) hgz).trans q1
      have HF := hid (tookB_take (l := l) (a := a) (b := b) (j := j) (by rw [HN.out]; exact hlt))
      have HO := hid (tookB_of (l := l) (a := a) (b := b) (j := j) (by rw [HN.out]; exact hlt))
      generalize l.getD j (0, 0) = p at *
      obtain ⟨x, y⟩ := p
      simp only at r0 r1 HF HO
      clear q0 q1
      by_cases e1 : (x : Int) = a
      · by_cases e2 : (y : Int) = b
        · have hO : tookB l a b = true := HO.out (by simp [e1, e2])
          have HO' := hid hO
          clear hO
          go_wp2_with fail
          go_ret
          exact ⟨by rw [HO'.out]; rfl, Hb.out.alloc Hb.out.size _⟩
        · have e2' : ((y : Int) == b) = false := by simpa using e2
          go_wp2_with fail
          go_roundw
          case rel => exact ⟨j + 1, by omega, by go_num, by unfold Hid; rw [HF.out, Ht.out, e2']; simp, Hb.out.alloc Hb.out.size _, (Below.heap_alloc _ _ _ hpz).trans Hp.out⟩
          case measure => simp [intOf]; omega
      · have e1' : ((x : Int) == a) = false := by simpa using e1
        go_wp2_with fail
        go_roundw
        case rel => exact ⟨j + 1, by omega, by go_num, by unfold Hid; rw [HF.out, Ht.out, e1']; simp, Hb.out.alloc Hb.out.size _, (Below.heap_alloc _ _ _ hpz).trans Hp.out⟩
        case measure => simp [intOf]; omega
    · have hjn : j = n := by omega
      have hT : tookB l a b = false := by
        have := Ht.out
        rw [hjn, ← HN.out, List.take_length] at this
        exact this
      have HT' := hid hT
      clear hT
      go_wp2_with fail
      go_ret
      exact ⟨by rw [HT'.out]; rfl, Hb.out⟩

/-- All six cells of sketch i. -/
theorem DeskIn.cells6 {w : World} {d : Nat} {D : Dk} {vt vk : Value} {rs : List Ref} (h : DeskIn F w d D vt vk rs) {i : Nat} (hi : i < D.sks.length) :
    ∃ g c ao ct, vk = .slice (some ⟨g, 0, none⟩) D.sks.length c ∧ g < w.heap.size ∧ (rs.getD i Ref.none).tk = .slice ao (D.sks.getD i Hd.none).taken.length ct ∧ w.cell? ⟨g, i * 6, none⟩ = some (.int .i64 ((D.sks.getD i Hd.none).sk.k : Int)) ∧
      w.cell? ⟨g, i * 6 + 1, none⟩ = some (.slice (some ⟨(rs.getD i Ref.none).g, 0, none⟩) (D.sks.getD i Hd.none).sk.lv.length (rs.getD i Ref.none).cap) ∧
      w.cell? ⟨g, i * 6 + 2, none⟩ = some (.int .i64 (D.sks.getD i Hd.none).sk.lo) ∧ w.cell? ⟨g, i * 6 + 3, none⟩ = some (.int .i64 (D.sks.getD i Hd.none).sk.hi) ∧
      w.cell? ⟨g, i * 6 + 4, none⟩ = some (.bool (D.sks.getD i Hd.none).sealed) ∧ w.cell? ⟨g, i * 6 + 5, none⟩ = some (.slice ao (D.sks.getD i Hd.none).taken.length ct) ∧ (∀ o, w.frozen? ⟨g, o, none⟩ = false) := by
  obtain ⟨vo, c, e, hc⟩ := h.vkForm
  obtain ⟨g, rfl, hg, hcc⟩ := hc i hi
  have hform : ∃ ao ct, (rs.getD i Ref.none).tk = .slice ao (D.sks.getD i Hd.none).taken.length ct := by
    rcases (h.tk i hi).2 with ⟨e, hn⟩ | ⟨g, cap, cur, e, _⟩
    · exact ⟨none, 0, by rw [e, hn]⟩
    · exact ⟨_, _, e⟩
  obtain ⟨ao, ct, et⟩ := hform
  have hfr : ∀ o, w.frozen? ⟨g, o, none⟩ = false := by
    intro o
    subst e
    obtain ⟨cc, hc⟩ := ownsRow_blk h.row (g := g) rfl
    simp [World.frozen?, hc]
  exact ⟨g, c, ao, ct, e, hg, et, hcc 0 (by omega) _ rfl, hcc 1 (by omega) _ rfl, hcc 2 (by omega) _ rfl, hcc 3 (by omega) _ rfl, hcc 4 (by omega) _ rfl, by rw [← et]; exact hcc 5 (by omega) _ rfl, hfr⟩

set_option maxHeartbeats 400000 in
theorem dtake_no (d : Nat) (D : Dk) (s a b : Int) (t : ByteArray) (w : World) (h : DeskAt F w d D) (hs : hasB s D.sks.length = false) :
    Calls Try.prog 78 #[.pointer (some ⟨d, 0, none⟩), .int .i64 s, .int .i64 a, .int .i64 b, .string t] w fun e w' => e = .returned (.int .i64 4) ∧ w' = w := by
  obtain ⟨vt, vk, rs, h⟩ := h
  obtain ⟨ao, c, rfl, _⟩ := h.vkForm
  obtain ⟨_, _, c2, _⟩ := blk3 h.blk
  have HH := hid (has_any d s _ _ _ _ c2)
  rw [hs] at HH
  clear h
  go_enter Try.func78, Try.ntmps78
  go_wp2_with (go_at_call 32; refine HH.out.mono ?_; rintro e w' ⟨rfl, rfl⟩)
  go_ret
  exact ⟨rfl, rfl⟩

set_option maxHeartbeats 400000 in
theorem dtake_sealed (d i : Nat) (D : Dk) (a b : Int) (t : ByteArray) (w : World) (h : DeskAt F w d D) (hi : i < D.sks.length) (hs : (D.sks.getD i Hd.none).sealed = true) :
    Calls Try.prog 78 #[.pointer (some ⟨d, 0, none⟩), .int .i64 (i : Int), .int .i64 a, .int .i64 b, .string t] w fun e w' => e = .returned (.int .i64 5) ∧ w' = w := by
  obtain ⟨vt, vk, rs, h⟩ := h
  obtain ⟨g, c, rfl, hg, q0, q1, q2, q3, q4⟩ := h.cells5 hi
  obtain ⟨_, _, c2, _⟩ := blk3 h.blk
  have HH := hid (has_any d (i : Int) _ _ _ _ c2)
  rw [hasB_nat hi] at HH
  rw [hs] at q4
  have hs1 : (0 : Int) ≤ (i : Int) := by omega
  have hs2 : (i : Int) < (D.sks.length : Int) := by omega
  clear h q0 q1 q2 q3
  generalize D.sks.length = n at *
  go_enter Try.func78, Try.ntmps78
  go_wp2_with (go_at_call 32; refine HH.out.mono ?_; rintro e w' ⟨rfl, rfl⟩)
  go_ret
  exact ⟨rfl, rfl⟩

set_option maxHeartbeats 400000 in
theorem dtake_arg (d i : Nat) (D : Dk) (a b : Int) (t : ByteArray) (w : World) (h : DeskAt F w d D) (hi : i < D.sks.length) (hs : (D.sks.getD i Hd.none).sealed = false) (ha : ¬ (0 ≤ a ∧ a ≤ 255 ∧ 0 ≤ b)) :
    Calls Try.prog 78 #[.pointer (some ⟨d, 0, none⟩), .int .i64 (i : Int), .int .i64 a, .int .i64 b, .string t] w fun e w' => e = .returned (.int .i64 1) ∧ w' = w := by
  obtain ⟨vt, vk, rs, h⟩ := h
  obtain ⟨g, c, rfl, hg, q0, q1, q2, q3, q4⟩ := h.cells5 hi
  obtain ⟨_, _, c2, _⟩ := blk3 h.blk
  have HH := hid (has_any d (i : Int) _ _ _ _ c2)
  rw [hasB_nat hi] at HH
  rw [hs] at q4
  have hs1 : (0 : Int) ≤ (i : Int) := by omega
  have hs2 : (i : Int) < (D.sks.length : Int) := by omega
  clear h q0 q1 q2 q3
  generalize D.sks.length = n at *
  by_cases h1 : a < 0
  · clear ha
    go_enter Try.func78, Try.ntmps78
    go_wp2_with (go_at_call 32; refine HH.out.mono ?_; rintro e w' ⟨rfl, rfl⟩)
    go_ret
    exact ⟨rfl, rfl⟩
  · by_cases h2 : 255 < a
    · clear ha
      go_enter Try.func78, Try.ntmps78
      go_wp2_with (go_at_call 32; refine HH.out.mono ?_; rintro e w' ⟨rfl, rfl⟩)
      go_ret
      exact ⟨rfl, rfl⟩
    · have h3 : b < 0 := by omega
      clear ha
      go_enter Try.func78, Try.ntmps78
      go_wp2_with (go_at_call 32; refine HH.out.mono ?_; rintro e w' ⟨rfl, rfl⟩)
      go_ret
      exact ⟨rfl, rfl⟩

end Go.Proofs.Ytklicjbpjigfdab
