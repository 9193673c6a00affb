/- DERIVED. Plain mathematics: how many coins settling wants. -/
import Derived.Test.YtklicjbpjigfdabQ8
namespace Go.Proofs.Ytklicjbpjigfdab
open Go.RowKit

theorem setTimes_nsum (L : List Lvl) (h t : Nat) : nsum (setTimes L h t) = nsum L := by
  induction L generalizing h with
  | nil => simp [setTimes]
  | cons l L ih =>
    cases h with
    | zero => simp [setTimes, nsum]
    | succ h =>
      have := ih h
      simp only [setTimes, List.getD_cons_succ, List.set_cons_succ, nsum] at this ⊢
      omega
theorem grow1_nsum (L : List Lvl) (h : Nat) : nsum (grow1 L h) = nsum L := by
  unfold grow1; split
  · exact nsum_snoc L
  · rfl
/-- A thinning of n items drops n / 2. -/
theorem thinL_nsum {L : List Lvl} {h : Nat} {c : Bool} (hh : h < L.length) : nsum (thinL L h c) + (L.getD h Lvl.none).items.length / 2 = nsum L := by
  have hl : h + 1 < (grow1 L h).length := by rw [grow1_length]; split <;> omega
  have hg : (grow1 L h).getD h Lvl.none = L.getD h Lvl.none := grow1_at hh
  unfold thinL
  simp only []
  generalize hits : (L.getD h Lvl.none).items = its at *
  have e0 := grow1_nsum L h
  generalize grow1 L h = L1 at *
  have e1 := setItems_nsum (L := L1) (h := h) (X := its.take (its.length % 2)) (by omega)
  rw [hg, hits] at e1
  have l2 : (setItems L1 h (its.take (its.length % 2))).length = L1.length := setItems_length _ _ _
  generalize setItems L1 h (its.take (its.length % 2)) = L2 at *
  have e2 := setTimes_nsum L2 h ((L2.getD h Lvl.none).times + 1)
  have l3 : (setTimes L2 h ((L2.getD h Lvl.none).times + 1)).length = L2.length := setTimes_length _ _ _
  generalize setTimes L2 h ((L2.getD h Lvl.none).times + 1) = L3 at *
  have e3 := setItems_nsum (L := L3) (h := h + 1) (X := jn (L3.getD (h + 1) Lvl.none).items (upOf its c)) (by omega)
  rw [jn_length, upOf_length] at e3
  rw [List.length_take] at e1
  have e5 : min (its.length % 2) its.length = its.length % 2 := Nat.min_eq_left (Nat.mod_le _ _)
  rw [e5] at e1
  omega

theorem capSum_mono {k m n : Nat} (h : m ≤ n) : capSum k m ≤ capSum k n := by
  induction n with
  | zero => have : m = 0 := by omega
            subst this; exact Nat.le_refl _
  | succ n ih =>
    by_cases e : m = n + 1
    · subst e; exact Nat.le_refl _
    · have := ih (by omega); simp only [capSum]; omega

theorem thinL_length_ge (L : List Lvl) (h : Nat) (c : Bool) : L.length ≤ (thinL L h c).length := by rw [thinL_length]; split <;> omega

/-- Whoever has too few coins has fewer than there are items too many. -/
theorem settle_none_bound {k : Nat} : ∀ {cs : List Bool} {u : Nat} {L : List Lvl}, settle k cs u L = Option.none → capSum k L.length + cs.length < nsum L := by
  intro cs
  induction cs with
  | nil =>
    intro u L h
    simp only [settle] at h
    split at h
    · simp at h
    · rename_i r hr
      unfold toThinL at hr
      split at hr
      · cases hr
      · simp; omega
  | cons c cs ih =>
    intro u L h
    simp only [settle] at h
    split at h
    · simp at h
    · rename_i r hr
      have h1 := ih h
      obtain ⟨h2, h3, _⟩ := toThinL_some hr
      have h4 := thinL_nsum (c := c) h2
      have h5 := capSum_mono (k := k) (thinL_length_ge L r c)
      simp only [List.length_cons]
      omega
/-- One coin more than too few is used up. -/
theorem settle_last {k : Nat} {c : Bool} : ∀ {cs : List Bool} {u : Nat} {L L' : List Lvl} {u' : Nat}, settle k cs u L = Option.none → settle k (cs ++ [c]) u L = some (L', u') → u' = u + cs.length + 1 := by
  intro cs
  induction cs with
  | nil =>
    intro u L L' u' h h2
    simp only [settle] at h
    split at h
    · simp at h
    · rename_i r hr
      simp only [List.nil_append] at h2
      rw [settle_step hr] at h2
      simp only [settle] at h2
      split at h2 <;> simp at h2
      simp; omega
  | cons a cs ih =>
    intro u L L' u' h h2
    simp only [settle] at h
    split at h
    · simp at h
    · rename_i r hr
      simp only [List.cons_append] at h2
      rw [settle_step hr] at h2
      have := ih h h2
      simp; omega

theorem withFrom_nsum {x : Int} : ∀ {f w h : Nat} {L : List Lvl}, h ≤ L.length → nsum (withFrom x f w h L) ≤ nsum L + f := by
  intro f
  induction f with
  | zero => intro w h L hh; simp [withFrom]
  | succ f ih =>
    intro w h L hh
    by_cases h0 : w = 0
    · subst h0; rw [withFrom_zero]; omega
    · have hl : h < (at1 L h).length := by rw [at1_length]; split <;> omega
      rw [withFrom_step (by omega)]
      have h1 := ih (w := w / 2) (h := h + 1) (L := bit1 x w (at1 L h) h) (by rw [bit1_length]; omega)
      have h2 := bit1_nsum (x := x) (w := w) hl
      rw [at1_nsum] at h2
      omega
theorem withFrom_length_ge {x : Int} : ∀ {f w h : Nat} {L : List Lvl}, h ≤ L.length → L.length ≤ (withFrom x f w h L).length := by
  intro f
  induction f with
  | zero => intro w h L hh; exact Nat.le_refl _
  | succ f ih =>
    intro w h L hh
    by_cases h0 : w = 0
    · subst h0; rw [withFrom_zero]; exact Nat.le_refl _
    · have hl : h < (at1 L h).length := by rw [at1_length]; split <;> omega
      have hl2 : L.length ≤ (at1 L h).length := by rw [at1_length]; split <;> omega
      rw [withFrom_step (by omega)]
      have := ih (w := w / 2) (h := h + 1) (L := bit1 x w (at1 L h) h) (by rw [bit1_length]; omega)
      rw [bit1_length] at this
      omega

end Go.Proofs.Ytklicjbpjigfdab

/- DERIVED. Plain mathematics: what is kept stays in rising order, came in, and weighs what came in, whatever comes in and whatever the coins. -/
namespace Go.Proofs.Ytklicjbpjigfdab
open Go.RowKit

def Rising (l : List Int) : Prop := ∀ t, t + 1 < l.length → l.getD t 0 ≤ l.getD (t + 1) 0
abbrev Srt (l : List Int) : Prop := l.Pairwise (· ≤ ·)
theorem Srt.rising {l : List Int} (h : Srt l) : Rising l := by
  intro t ht
  have := (List.pairwise_iff_getElem.1 h) t (t + 1) (by omega) ht (by omega)
  simp only [List.getD, List.getElem?_eq_getElem (show t < l.length by omega), List.getElem?_eq_getElem ht, Option.getD_some]
  exact this

theorem mem_jn {y : Int} : ∀ {B A : List Int}, y ∈ jn A B → y ∈ A ∨ y ∈ B := by
  intro B
  induction B with
  | nil => intro A h; exact .inl h
  | cons x B ih =>
    intro A h
    simp only [jn, List.mem_append, List.mem_cons] at h
    rcases h with h | rfl | h
    · exact .inl ((List.takeWhile_sublist _).subset h)
    · exact .inr (by simp)
    · rcases ih h with h | h
      · exact .inl ((List.dropWhile_sublist _).subset h)
      · exact .inr (by simp [h])
theorem takeWhile_all {p : Int → Bool} {y : Int} : ∀ {A : List Int}, y ∈ A.takeWhile p → p y = true := by
  intro A
  induction A with
  | nil => intro h; simp at h
  | cons a A ih =>
    intro h
    rw [List.takeWhile_cons] at h
    split at h
    · rcases List.mem_cons.1 h with rfl | h
      · assumption
      · exact ih h
    · simp at h
theorem dropWhile_gt {x y : Int} : ∀ {A : List Int}, Srt A → y ∈ A.dropWhile (fun a => decide (a ≤ x)) → x ≤ y := by
  intro A
  induction A with
  | nil => intro _ h; simp at h
  | cons a A ih =>
    intro hs h
    rw [List.dropWhile_cons] at h
    split at h
    · exact ih (List.Pairwise.of_cons hs) h
    · rename_i hn
      simp at hn
      rcases List.mem_cons.1 h with rfl | h
      · omega
      · have := List.rel_of_pairwise_cons hs h; omega
theorem srt_jn : ∀ {B A : List Int}, Srt A → Srt B → Srt (jn A B) := by
  intro B
  induction B with
  | nil => intro A hA _; exact hA
  | cons x B ih =>
    intro A hA hB
    simp only [jn]
    have hd : Srt (A.dropWhile fun a => decide (a ≤ x)) := hA.sublist (List.dropWhile_sublist _)
    have hr := ih hd (List.Pairwise.of_cons hB)
    have hge : ∀ y ∈ jn (A.dropWhile fun a => decide (a ≤ x)) B, x ≤ y := by
      intro y hy
      rcases mem_jn hy with h | h
      · exact dropWhile_gt hA h
      · exact List.rel_of_pairwise_cons hB h
    refine List.pairwise_append.2 ⟨hA.sublist (List.takeWhile_sublist _), List.pairwise_cons.2 ⟨hge, hr⟩, ?_⟩
    intro a ha b hb
    have h1 : a ≤ x := by simpa using takeWhile_all ha
    rcases List.mem_cons.1 hb with rfl | hb
    · exact h1
    · have := hge b hb; omega
theorem evens_sub : ∀ l : List Int, (evens l).Sublist l
  | [] => by simp [evens]
  | [x] => by simp [evens]
  | x :: y :: r => by
    rw [evens]
    exact (List.Sublist.cons_cons x (List.Sublist.cons y (evens_sub r)))

/-- Each level is in rising order, and of numbers in X. -/
def LvOk (X : List Int) (L : List Lvl) : Prop := ∀ l ∈ L, Srt l.items ∧ ∀ x ∈ l.items, x ∈ X
theorem LvOk.at {X : List Int} {L : List Lvl} (h : LvOk X L) (j : Nat) : Srt (L.getD j Lvl.none).items ∧ ∀ x ∈ (L.getD j Lvl.none).items, x ∈ X := by
  by_cases hj : j < L.length
  · have : L.getD j Lvl.none = L[j] := by simp [List.getD, hj]
    rw [this]
    exact h _ (List.getElem_mem hj)
  · have : L.getD j Lvl.none = Lvl.none := by simp [List.getD, hj]
    rw [this]
    exact ⟨List.Pairwise.nil, fun x hx => by simp [Lvl.none] at hx⟩
theorem LvOk.snoc {X : List Int} {L : List Lvl} (h : LvOk X L) : LvOk X (L ++ [Lvl.none]) := by
  intro l hl
  rcases List.mem_append.1 hl with hl | hl
  · exact h l hl
  · have : l = Lvl.none := by simpa using hl
    subst this
    exact ⟨List.Pairwise.nil, fun x hx => by simp [Lvl.none] at hx⟩
theorem LvOk.setItems {X : List Int} {L : List Lvl} (h : LvOk X L) {j : Nat} {its : List Int} (hs : Srt its) (hm : ∀ x ∈ its, x ∈ X) : LvOk X (setItems L j its) := by
  intro l hl
  unfold Go.Proofs.Ytklicjbpjigfdab.setItems at hl
  rcases List.mem_or_eq_of_mem_set hl with hl | rfl
  · exact h l hl
  · exact ⟨hs, hm⟩
theorem LvOk.setTimes {X : List Int} {L : List Lvl} (h : LvOk X L) {j t : Nat} : LvOk X (setTimes L j t) := by
  intro l hl
  unfold Go.Proofs.Ytklicjbpjigfdab.setTimes at hl
  rcases List.mem_or_eq_of_mem_set hl with hl | rfl
  · exact h l hl
  · exact h.at j
theorem LvOk.grow1 {X : List Int} {L : List Lvl} (h : LvOk X L) (j : Nat) : LvOk X (grow1 L j) := by
  unfold Go.Proofs.Ytklicjbpjigfdab.grow1; split
  · exact h.snoc
  · exact h
theorem LvOk.thin {X : List Int} {L : List Lvl} (h : LvOk X L) (j : Nat) (c : Bool) : LvOk X (thinL L j c) := by
  unfold thinL
  simp only []
  have h0 := h.at j
  have h1 := (h.grow1 j).setItems (j := j) (its := (L.getD j Lvl.none).items.take ((L.getD j Lvl.none).items.length % 2)) (h0.1.sublist (List.take_sublist _ _)) (fun x hx => h0.2 x ((List.take_sublist _ _).subset hx))
  have h2 := h1.setTimes (j := j) (t := ((Go.Proofs.Ytklicjbpjigfdab.setItems (Go.Proofs.Ytklicjbpjigfdab.grow1 L j) j ((L.getD j Lvl.none).items.take ((L.getD j Lvl.none).items.length % 2))).getD j Lvl.none).times + 1)
  have h3 := h2.at (j + 1)
  have hu : (upOf (L.getD j Lvl.none).items c).Sublist (L.getD j Lvl.none).items := (evens_sub _).trans (List.drop_sublist _ _)
  refine h2.setItems (srt_jn h3.1 (h0.1.sublist hu)) (fun x hx => ?_)
  rcases mem_jn hx with hx | hx
  · exact h3.2 x hx
  · exact h0.2 x (hu.subset hx)
theorem LvOk.bit {X : List Int} {L : List Lvl} (h : LvOk X L) {x : Int} (hx : x ∈ X) (w j : Nat) : LvOk X (bit1 x w L j) := by
  unfold bit1; split
  · have h0 := h.at j
    refine h.setItems (srt_jn h0.1 (List.pairwise_singleton _ _)) (fun y hy => ?_)
    rcases mem_jn hy with hy | hy
    · exact h0.2 y hy
    · have : y = x := by simpa using hy
      subst this; exact hx
  · exact h
theorem LvOk.at1 {X : List Int} {L : List Lvl} (h : LvOk X L) (j : Nat) : LvOk X (at1 L j) := by
  unfold Go.Proofs.Ytklicjbpjigfdab.at1; split
  · exact h.snoc
  · exact h
theorem LvOk.with {X : List Int} {x : Int} (hx : x ∈ X) : ∀ {f w j : Nat} {L : List Lvl}, LvOk X L → LvOk X (withFrom x f w j L) := by
  intro f
  induction f with
  | zero => intro w j L h; exact h
  | succ f ih =>
    intro w j L h
    by_cases h0 : w = 0
    · subst h0; rw [withFrom_zero]; exact h
    · rw [withFrom_step (by omega)]
      exact ih ((h.at1 j).bit hx w j)
theorem LvOk.settle {X : List Int} {k : Nat} : ∀ {cs : List Bool} {u : Nat} {L L' : List Lvl} {u' : Nat}, LvOk X L → settle k cs u L = some (L', u') → LvOk X L' := by
  intro cs
  induction cs with
  | nil => intro u L L' u' h hs; simp only [Go.Proofs.Ytklicjbpjigfdab.settle] at hs; split at hs <;> simp at hs; rw [← hs.1]; exact h
  | cons c cs ih =>
    intro u L L' u' h hs
    simp only [Go.Proofs.Ytklicjbpjigfdab.settle] at hs
    split at hs
    · simp at hs; rw [← hs.1]; exact h
    · exact ih (h.thin _ _) hs
theorem LvOk.mono {X Y : List Int} {L : List Lvl} (h : LvOk X L) (hXY : ∀ x ∈ X, x ∈ Y) : LvOk Y L := fun l hl => ⟨(h l hl).1, fun x hx => hXY x ((h l hl).2 x hx)⟩

/-- How many times, in all. -/
def tsum : List Lvl → Nat
  | [] => 0
  | l :: L => l.times + tsum L
theorem tsum_at (L : List Lvl) (j : Nat) : (L.getD j Lvl.none).times ≤ tsum L := by
  induction L generalizing j with
  | nil => simp [Lvl.none]
  | cons l L ih =>
    cases j with
    | zero => simp [tsum]
    | succ j => have := ih j; simp only [tsum, List.getD_cons_succ]; omega
theorem tsum_snoc (L : List Lvl) : tsum (L ++ [Lvl.none]) = tsum L := by
  induction L with
  | nil => rfl
  | cons l L ih => simp only [List.cons_append, tsum, ih]
theorem setItems_tsum (L : List Lvl) (h : Nat) (X : List Int) : tsum (setItems L h X) = tsum L := by
  induction L generalizing h with
  | nil => simp [setItems]
  | cons l L ih =>
    cases h with
    | zero => simp [setItems, tsum]
    | succ h =>
      have := ih h
      simp only [setItems, List.getD_cons_succ, List.set_cons_succ, tsum] at this ⊢
      omega
theorem setTimes_tsum {L : List Lvl} {h t : Nat} (hh : h < L.length) : tsum (setTimes L h t) + (L.getD h Lvl.none).times = tsum L + t := by
  induction L generalizing h with
  | nil => simp at hh
  | cons l L ih =>
    cases h with
    | zero => simp [setTimes, tsum]; omega
    | succ h =>
      have := ih (h := h) (by simpa using hh)
      simp only [setTimes, List.getD_cons_succ, List.set_cons_succ, tsum] at this ⊢
      omega
theorem thinL_tsum {L : List Lvl} {h : Nat} {c : Bool} (hh : h < L.length) : tsum (thinL L h c) = tsum L + 1 := by
  have hl : h + 1 < (grow1 L h).length := by rw [grow1_length]; split <;> omega
  have e0 : tsum (grow1 L h) = tsum L := by
    unfold grow1; split
    · exact tsum_snoc L
    · rfl
  unfold thinL
  simp only []
  rw [setItems_tsum]
  have e1 := setItems_tsum (grow1 L h) h ((L.getD h Lvl.none).items.take ((L.getD h Lvl.none).items.length % 2))
  have e2 := setTimes_tsum (L := setItems (grow1 L h) h ((L.getD h Lvl.none).items.take ((L.getD h Lvl.none).items.length % 2))) (h := h) (t := ((setItems (grow1 L h) h ((L.getD h Lvl.none).items.take ((L.getD h Lvl.none).items.length % 2))).getD h Lvl.none).times + 1) (by rw [setItems_length]; omega)
  omega
theorem withFrom_tsum {x : Int} : ∀ {f w h : Nat} {L : List Lvl}, tsum (withFrom x f w h L) = tsum L := by
  intro f
  induction f with
  | zero => intro w h L; rfl
  | succ f ih =>
    intro w h L
    by_cases h0 : w = 0
    · subst h0; rw [withFrom_zero]
    · rw [withFrom_step (by omega), ih]
      have e1 : tsum (at1 L h) = tsum L := by
        unfold at1; split
        · exact tsum_snoc L
        · rfl
      unfold bit1; split
      · rw [setItems_tsum, e1]
      · exact e1
/-- No more items come than the weight. -/
theorem withFrom_nw {x : Int} : ∀ {f w h : Nat} {L : List Lvl}, h ≤ L.length → nsum (withFrom x f w h L) ≤ nsum L + w := by
  intro f
  induction f with
  | zero => intro w h L hh; simp [withFrom]
  | succ f ih =>
    intro w h L hh
    by_cases h0 : w = 0
    · subst h0; rw [withFrom_zero]; omega
    · have hl : h < (at1 L h).length := by rw [at1_length]; split <;> omega
      rw [withFrom_step (by omega)]
      have h1 := ih (w := w / 2) (h := h + 1) (L := bit1 x w (at1 L h) h) (by rw [bit1_length]; omega)
      have h2 : nsum (bit1 x w (at1 L h) h) ≤ nsum L + w % 2 := by
        unfold bit1; split
        · have := setItems_nsum (X := jn ((at1 L h).getD h Lvl.none).items [x]) hl
          rw [jn_length, at1_nsum] at this; simp at this; simp; omega
        · rw [at1_nsum]; omega
      omega

theorem crowd_none {k n : Nat} : ∀ {h : Nat} {L : List Lvl}, h + L.length = n → crowd k n h L = Option.none → nsum L ≤ capSum k L.length := by
  intro h L
  induction L generalizing h with
  | nil => intro _ _; simp [nsum, capSum]
  | cons l L ih =>
    intro hn hc
    rw [crowd] at hc
    split at hc
    · cases hc
    · rename_i hle
      have := ih (h := h + 1) (by simp at hn; omega) hc
      have e : n - 1 - h = L.length := by simp at hn; omega
      rw [e] at hle
      simp only [nsum, List.length_cons, capSum]
      omega
theorem toThinL_none {k : Nat} {L : List Lvl} (h : toThinL k L = Option.none) : nsum L ≤ capSum k L.length := by
  unfold toThinL at h
  split at h
  · assumption
  · exact crowd_none (by simp) h

/-- What settling keeps. -/
theorem settle_keeps {k : Nat} : ∀ {cs : List Bool} {u : Nat} {L L' : List Lvl} {u' : Nat}, settle k cs u L = some (L', u') → wsum L ≤ 268435456 → L.length ≤ 29 → wsum L' = wsum L ∧ L'.length ≤ 29 ∧ L.length ≤ L'.length ∧ nsum L' ≤ capSum k L'.length ∧ tsum L' + nsum L' ≤ tsum L + nsum L := by
  intro cs
  induction cs with
  | nil =>
    intro u L L' u' hs hw hl
    simp only [settle] at hs
    split at hs
    · rename_i hn; simp at hs; rw [← hs.1]; exact ⟨rfl, hl, Nat.le_refl _, toThinL_none hn, Nat.le_refl _⟩
    · simp at hs
  | cons c cs ih =>
    intro u L L' u' hs hw hl
    simp only [settle] at hs
    split at hs
    · rename_i hn; simp at hs; rw [← hs.1]; exact ⟨rfl, hl, Nat.le_refl _, toThinL_none hn, Nat.le_refl _⟩
    · rename_i r hr
      obtain ⟨h1, h2, _⟩ := toThinL_some hr
      have e1 := thinL_wsum (c := c) h1
      obtain ⟨a1, a2, a3, a4, a5⟩ := ih hs (by rw [e1]; exact hw) (thinL_len hr hw hl)
      have e2 := thinL_nsum (c := c) h1
      have e3 := thinL_tsum (c := c) h1
      have e4 := thinL_length_ge L r c
      exact ⟨a1.trans e1, a2, by omega, a4, by omega⟩

end Go.Proofs.Ytklicjbpjigfdab

/- DERIVED. Plain mathematics of one sketch's levels coming into another's. -/
namespace Go.Proofs.Ytklicjbpjigfdab
open Go.RowKit

/-- Level t comes onto level h. -/
def mstep (L : List Lvl) (h : Nat) (t : Lvl) : List Lvl :=
  setTimes (setItems (at1 L h) h (jn ((at1 L h).getD h Lvl.none).items t.items)) h (((at1 L h).getD h Lvl.none).times + t.times)
/-- The levels T come in, from level h on. -/
def mergeFrom : List Lvl → Nat → List Lvl → List Lvl
  | [], _, L => L
  | t :: T, h, L => mergeFrom T (h + 1) (mstep L h t)
/-- All of it at once. -/
def mergeL : List Lvl → List Lvl → List Lvl
  | L, [] => L
  | [], t :: T => ⟨jn [] t.items, t.times⟩ :: mergeL [] T
  | l :: L, t :: T => ⟨jn l.items t.items, l.times + t.times⟩ :: mergeL L T

theorem mstep_app (P L : List Lvl) (l t : Lvl) : mstep (P ++ l :: L) P.length t = P ++ ⟨jn l.items t.items, l.times + t.times⟩ :: L := by
  have h1 : at1 (P ++ l :: L) P.length = P ++ l :: L := by unfold at1; rw [if_neg (by simp)]
  have h2 : (P ++ l :: L).getD P.length Lvl.none = l := by simp [List.getD]
  unfold mstep
  rw [h1, h2]
  simp [setItems, setTimes, List.getD]
theorem mstep_end (P : List Lvl) (t : Lvl) : mstep P P.length t = P ++ [⟨jn [] t.items, t.times⟩] := by
  have h1 : at1 P P.length = P ++ [Lvl.none] := by unfold at1; rw [if_pos rfl]
  have h2 : (P ++ [Lvl.none]).getD P.length Lvl.none = Lvl.none := by simp [List.getD]
  unfold mstep
  rw [h1, h2]
  simp [setItems, setTimes, List.getD, Lvl.none]
theorem mergeFrom_app : ∀ (T P L : List Lvl), mergeFrom T P.length (P ++ L) = P ++ mergeL L T := by
  intro T
  induction T with
  | nil => intro P L; cases L <;> simp [mergeFrom, mergeL]
  | cons t T ih =>
    intro P L
    cases L with
    | nil =>
      rw [mergeFrom, List.append_nil, mstep_end, mergeL]
      have := ih (P ++ [⟨jn [] t.items, t.times⟩]) []
      simp only [List.length_append, List.length_cons, List.length_nil, List.append_nil, Nat.zero_add] at this
      rw [this, List.append_assoc]; rfl
    | cons l L =>
      rw [mergeFrom, mstep_app, mergeL]
      have := ih (P ++ [⟨jn l.items t.items, l.times + t.times⟩]) L
      simp only [List.length_append, List.length_cons, List.length_nil, List.append_assoc, Nat.zero_add, List.cons_append, List.nil_append] at this
      rw [this]
theorem mergeFrom_eq (T L : List Lvl) : mergeFrom T 0 L = mergeL L T := by
  have := mergeFrom_app T [] L
  simpa using this
theorem mergeFrom_drop {T L : List Lvl} {j : Nat} (h : j < T.length) : mergeFrom (T.drop j) j L = mergeFrom (T.drop (j + 1)) (j + 1) (mstep L j (T.getD j Lvl.none)) := by
  rw [lv_drop T j h, mergeFrom]
theorem mergeFrom_end {T L : List Lvl} {j : Nat} (h : T.length ≤ j) : mergeFrom (T.drop j) j L = L := by
  rw [List.drop_eq_nil_of_le h, mergeFrom]

theorem mstep_length {L : List Lvl} {h : Nat} {t : Lvl} : (mstep L h t).length = if h = L.length then L.length + 1 else L.length := by
  unfold mstep
  rw [setTimes_length, setItems_length, at1_length]
theorem mstep_nsum {L : List Lvl} {h : Nat} {t : Lvl} (hh : h ≤ L.length) : nsum (mstep L h t) = nsum L + t.items.length := by
  have hl : h < (at1 L h).length := by rw [at1_length]; split <;> omega
  unfold mstep
  rw [setTimes_nsum]
  have := setItems_nsum (X := jn ((at1 L h).getD h Lvl.none).items t.items) hl
  rw [jn_length, at1_nsum] at this
  omega
theorem mstep_tsum {L : List Lvl} {h : Nat} {t : Lvl} (hh : h ≤ L.length) : tsum (mstep L h t) = tsum L + t.times := by
  have hl : h < (at1 L h).length := by rw [at1_length]; split <;> omega
  have e1 : tsum (at1 L h) = tsum L := by
    unfold at1; split
    · exact tsum_snoc L
    · rfl
  unfold mstep
  have := setTimes_tsum (L := setItems (at1 L h) h (jn ((at1 L h).getD h Lvl.none).items t.items)) (h := h) (t := ((at1 L h).getD h Lvl.none).times + t.times) (by rw [setItems_length]; exact hl)
  rw [setItems_tsum, e1, setItems_times] at this
  omega
theorem mstep_set {L : List Lvl} {h : Nat} {t : Lvl} : mstep L h t = setTimes (setItems (at1 L h) h (jn ((at1 L h).getD h Lvl.none).items t.items)) h (((setItems (at1 L h) h (jn ((at1 L h).getD h Lvl.none).items t.items)).getD h Lvl.none).times + t.times) := by
  rw [setItems_times]; rfl

theorem mergeL_nil (L : List Lvl) : mergeL L [] = L := by cases L <;> rfl
/-- What adds up. -/
theorem mergeL_wsum : ∀ (T L : List Lvl), wsum (mergeL L T) = wsum L + wsum T := by
  intro T
  induction T with
  | nil => intro L; rw [mergeL_nil]; simp [wsum]
  | cons t T ih =>
    intro L
    cases L with
    | nil => simp only [mergeL, wsum, jn_length, ih, List.length_nil]; omega
    | cons l L => simp only [mergeL, wsum, jn_length, ih]; omega
theorem mergeL_nsum : ∀ (T L : List Lvl), nsum (mergeL L T) = nsum L + nsum T := by
  intro T
  induction T with
  | nil => intro L; rw [mergeL_nil]; simp [nsum]
  | cons t T ih =>
    intro L
    cases L with
    | nil => simp only [mergeL, nsum, jn_length, ih, List.length_nil]; omega
    | cons l L => simp only [mergeL, nsum, jn_length, ih]; omega
theorem mergeL_tsum : ∀ (T L : List Lvl), tsum (mergeL L T) = tsum L + tsum T := by
  intro T
  induction T with
  | nil => intro L; rw [mergeL_nil]; simp [tsum]
  | cons t T ih =>
    intro L
    cases L with
    | nil => simp only [mergeL, tsum, ih]; omega
    | cons l L => simp only [mergeL, tsum, ih]; omega
theorem mergeL_length : ∀ (T L : List Lvl), (mergeL L T).length = max L.length T.length := by
  intro T
  induction T with
  | nil => intro L; rw [mergeL_nil]; simp
  | cons t T ih =>
    intro L
    cases L with
    | nil => simp only [mergeL, List.length_cons, ih, List.length_nil]; omega
    | cons l L => simp only [mergeL, List.length_cons, ih]; omega
theorem LvOk.merge {X : List Int} : ∀ {T L : List Lvl}, LvOk X L → LvOk X T → LvOk X (mergeL L T) := by
  intro T
  induction T with
  | nil => intro L h _; rw [mergeL_nil]; exact h
  | cons t T ih =>
    intro L hL hT
    have ht := hT t (by simp)
    have hT' : LvOk X T := fun l hl => hT l (by simp [hl])
    cases L with
    | nil =>
      intro l hl
      simp only [mergeL, List.mem_cons] at hl
      rcases hl with rfl | hl
      · exact ⟨srt_jn List.Pairwise.nil ht.1, fun x hx => (mem_jn hx).elim (fun h => by simp at h) (ht.2 x)⟩
      · exact ih hL hT' l hl
    | cons a L =>
      have ha := hL a (by simp)
      intro l hl
      simp only [mergeL, List.mem_cons] at hl
      rcases hl with rfl | hl
      · exact ⟨srt_jn ha.1 ht.1, fun x hx => (mem_jn hx).elim (ha.2 x) (ht.2 x)⟩
      · exact ih (fun l hl => hL l (by simp [hl])) hT' l hl

end Go.Proofs.Ytklicjbpjigfdab
