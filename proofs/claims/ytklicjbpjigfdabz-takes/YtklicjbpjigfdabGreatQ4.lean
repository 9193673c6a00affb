/- DERIVED. Plain mathematics: how many coins settling wants. -/
import Derived.Test.YtklicjbpjigfdabGreatQ3
import Derived.Test.YtklicjbpjigfdabGreatQ1
namespace Go.Proofs.YtklicjbpjigfdabGreat
open Go.RowKit

theorem setTimes_nsum (L : List Lvl) (h t : Nat) : nsum (setTimes L h t) = nsum L := by
  induction L generalizing h with
  | nil => simp [setTimes]
  | cons l L ih =>
    cases h with
    | zero => simp [setTimes, nsum]
    | succ h =>
      have := ih h
      simp only [setTimes, List.getD_cons_succ, List.set_cons_succ, nsum] at this ⊢
      omega
theorem grow1_nsum (L : List Lvl) (h : Nat) : nsum (grow1 L h) = nsum L := by
  unfold grow1; split
  · exact nsum_snoc L
  · rfl
/-- A thinning of n items drops n / 2. -/
theorem thinL_nsum {L : List Lvl} {h : Nat} {c : Bool} (hh : h < L.length) : nsum (thinL L h c) + (L.getD h Lvl.none).items.length / 2 = nsum L := by
  have hl : h + 1 < (grow1 L h).length := by rw [grow1_length]; split <;> omega
  have hg : (grow1 L h).getD h Lvl.none = L.getD h Lvl.none := grow1_at hh
  unfold thinL
  simp only []
  generalize hits : (L.getD h Lvl.none).items = its at *
  have e0 := grow1_nsum L h
  generalize grow1 L h = L1 at *
  have e1 := setItems_nsum (L := L1) (h := h) (X := its.take (its.length % 2)) (by omega)
  rw [hg, hits] at e1
  have l2 : (setItems L1 h (its.take (its.length % 2))).length = L1.length := setItems_length _ _ _
  generalize setItems L1 h (its.take (its.length % 2)) = L2 at *
  have e2 := setTimes_nsum L2 h ((L2.getD h Lvl.none).times + 1)
  have l3 : (setTimes L2 h ((L2.getD h Lvl.none).times + 1)).length = L2.length := setTimes_length _ _ _
  generalize setTimes L2 h ((L2.getD h Lvl.none).times + 1) = L3 at *
  have e3 := setItems_nsum (L := L3) (h := h + 1) (X := jn (L3.getD (h + 1) Lvl.none).items (upOf its c)) (by omega)
  rw [jn_length, upOf_length] at e3
  rw [List.length_take] at e1
  have e5 : min (its.length % 2) its.length = its.length % 2 := Nat.min_eq_left (Nat.mod_le _ _)
  rw [e5] at e1
  omega

theorem capSum_mono {k m n : Nat} (h : m ≤ n) : capSum k m ≤ capSum k n := by
  induction n with
  | zero => have : m = 0 := by omega
            subst this; exact Nat.le_refl _
  | succ n ih =>
    by_cases e : m = n + 1
    · subst e; exact Nat.le_refl _
    · have := ih (by omega); simp only [capSum]; omega

theorem thinL_length_ge (L : List Lvl) (h : Nat) (c : Bool) : L.length ≤ (thinL L h c).length := by rw [thinL_length]; split <;> omega

/-- Whoever has too few coins has fewer than there are items too many. -/
theorem settle_none_bound {k : Nat} : ∀ {cs : List Bool} {u : Nat} {L : List Lvl}, settle k cs u L = Option.none → capSum k L.length + cs.length < nsum L := by
  intro cs
  induction cs with
  | nil =>
    intro u L h
    simp only [settle] at h
    split at h
    · simp at h
    · rename_i r hr
      unfold toThinL at hr
      split at hr
      · cases hr
      · simp; omega
  | cons c cs ih =>
    intro u L h
    simp only [settle] at h
    split at h
    · simp at h
    · rename_i r hr
      have h1 := ih h
      obtain ⟨h2, h3, _⟩ := toThinL_some hr
      have h4 := thinL_nsum (c := c) h2
      have h5 := capSum_mono (k := k) (thinL_length_ge L r c)
      simp only [List.length_cons]
      omega
/-- One coin more than too few is used up. -/
theorem settle_last {k : Nat} {c : Bool} : ∀ {cs : List Bool} {u : Nat} {L L' : List Lvl} {u' : Nat}, settle k cs u L = Option.none → settle k (cs ++ [c]) u L = some (L', u') → u' = u + cs.length + 1 := by
  intro cs
  induction cs with
  | nil =>
    intro u L L' u' h h2
    simp only [settle] at h
    split at h
    · simp at h
    · rename_i r hr
      simp only [List.nil_append] at h2
      rw [settle_step hr] at h2
      simp only [settle] at h2
      split at h2 <;> simp at h2
      simp; omega
  | cons a cs ih =>
    intro u L L' u' h h2
    simp only [settle] at h
    split at h
    · simp at h
    · rename_i r hr
      simp only [List.cons_append] at h2
      rw [settle_step hr] at h2
      have := ih h h2
      simp; omega

theorem withFrom_nsum {x : Int} : ∀ {f w h : Nat} {L : List Lvl}, h ≤ L.length → nsum (withFrom x f w h L) ≤ nsum L + f := by
  intro f
  induction f with
  | zero => intro w h L hh; simp [withFrom]
  | succ f ih =>
    intro w h L hh
    by_cases h0 : w = 0
    · subst h0; rw [withFrom_zero]; omega
    · have hl : h < (at1 L h).length := by rw [at1_length]; split <;> omega
      rw [withFrom_step (by omega)]
      have h1 := ih (w := w / 2) (h := h + 1) (L := bit1 x w (at1 L h) h) (by rw [bit1_length]; omega)
      have h2 := bit1_nsum (x := x) (w := w) hl
      rw [at1_nsum] at h2
      omega
theorem withFrom_length_ge {x : Int} : ∀ {f w h : Nat} {L : List Lvl}, h ≤ L.length → L.length ≤ (withFrom x f w h L).length := by
  intro f
  induction f with
  | zero => intro w h L hh; exact Nat.le_refl _
  | succ f ih =>
    intro w h L hh
    by_cases h0 : w = 0
    · subst h0; rw [withFrom_zero]; exact Nat.le_refl _
    · have hl : h < (at1 L h).length := by rw [at1_length]; split <;> omega
      have hl2 : L.length ≤ (at1 L h).length := by rw [at1_length]; split <;> omega
      rw [withFrom_step (by omega)]
      have := ih (w := w / 2) (h := h + 1) (L := bit1 x w (at1 L h) h) (by rw [bit1_length]; omega)
      rw [bit1_length] at this
      omega

end Go.Proofs.YtklicjbpjigfdabGreat

/- DERIVED. Plain mathematics: what is kept stays in rising order, came in, and weighs what came in, whatever comes in and whatever the coins. -/
namespace Go.Proofs.YtklicjbpjigfdabGreat
open Go.RowKit

def Rising (l : List Int) : Prop := ∀ t, t + 1 < l.length → l.getD t 0 ≤ l.getD (t + 1) 0
abbrev Srt (l : List Int) : Prop := l.Pairwise (· ≤ ·)
theorem Srt.rising {l : List Int} (h : Srt l) : Rising l := by
  intro t ht
  have := (List.pairwise_iff_getElem.1 h) t (t + 1) (by omega) ht (by omega)
  simp only [List.getD, List.getElem?_eq_getElem (show t < l.length by omega), List.getElem?_eq_getElem ht, Option.getD_some]
  exact this

theorem mem_jn {y : Int} : ∀ {B A : List Int}, y ∈ jn A B → y ∈ A ∨ y ∈ B := by
  intro B
  induction B with
  | nil => intro A h; exact .inl h
  | cons x B ih =>
    intro A h
    simp only [jn, List.mem_append, List.mem_cons] at h
    rcases h with h | rfl | h
    · exact .inl ((List.takeWhile_sublist _).subset h)
    · exact .inr (by simp)
    · rcases ih h with h | h
      · exact .inl ((List.dropWhile_sublist _).subset h)
      · exact .inr (by simp [h])
theorem takeWhile_all {p : Int → Bool} {y : Int} : ∀ {A : List Int}, y ∈ A.takeWhile p → p y = true := by
  intro A
  induction A with
  | nil => intro h; simp at h
  | cons a A ih =>
    intro h
    rw [List.takeWhile_cons] at h
    split at h
    · rcases List.mem_cons.1 h with rfl | h
      · assumption
      · exact ih h
    · simp at h
theorem dropWhile_gt {x y : Int} : ∀ {A : List Int}, Srt A → y ∈ A.dropWhile (fun a => decide (a ≤ x)) → x ≤ y := by
  intro A
  induction A with
  | nil => intro _ h; simp at h
  | cons a A ih =>
    intro hs h
    rw [List.dropWhile_cons] at h
    split at h
    · exact ih (List.Pairwise.of_cons hs) h
    · rename_i hn
      simp at hn
      rcases List.mem_cons.1 h with rfl | h
      · omega
      · have := List.rel_of_pairwise_cons hs h; omega
theorem srt_jn : ∀ {B A : List Int}, Srt A → Srt B → Srt (jn A B) := by
  intro B
  induction B with
  | nil => intro A hA _; exact hA
  | cons x B ih =>
    intro A hA hB
    simp only [jn]
    have hd : Srt (A.dropWhile fun a => decide (a ≤ x)) := hA.sublist (List.dropWhile_sublist _)
    have hr := ih hd (List.Pairwise.of_cons hB)
    have hge : ∀ y ∈ jn (A.dropWhile fun a => decide (a ≤ x)) B, x ≤ y := by
      intro y hy
      rcases mem_jn hy with h | h
      · exact dropWhile_gt hA h
      · exact List.rel_of_pairwise_cons hB h
    refine List.pairwise_append.2 ⟨hA.sublist (List.takeWhile_sublist _), List.pairwise_cons.2 ⟨hge, hr⟩, ?_⟩
    intro a ha b hb
    have h1 : a ≤ x := by simpa using takeWhile_all ha
    rcases List.mem_cons.1 hb with rfl | hb
    · exact h1
    · have := hge b hb; omega
theorem evens_sub : ∀ l : List Int, (evens l).Sublist l
  | [] => by simp [evens]
  | [x] => by simp [evens]
  | x :: y :: r => by
    rw [evens]
    exact (List.Sublist.cons_cons x (List.Sublist.cons y (evens_sub r)))

/-- Each level is in rising order, and of numbers in X. -/
def LvOk (X : List Int) (L : List Lvl) : Prop := ∀ l ∈ L, Srt l.items ∧ ∀ x ∈ l.items, x ∈ X
theorem LvOk.at {X : List Int} {L : List Lvl} (h : LvOk X L) (j : Nat) : Srt (L.getD j Lvl.none).items ∧ ∀ x ∈ (L.getD j Lvl.none).items, x ∈ X := by
  by_cases hj : j < L.length
  · have : L.getD j Lvl.none = L[j] := by simp [List.getD, hj]
    rw [this]
    exact h _ (List.getElem_mem hj)
  · have : L.getD j Lvl.none = Lvl.none := by simp [List.getD, hj]
    rw [this]
    exact ⟨List.Pairwise.nil, fun x hx => by simp [Lvl.none] at hx⟩
theorem LvOk.snoc {X : List Int} {L : List Lvl} (h : LvOk X L) : LvOk X (L ++ [Lvl.none]) := by
  intro l hl
  rcases List.mem_append.1 hl with hl | hl
  · exact h l hl
  · have : l = Lvl.none := by simpa using hl
    subst this
    exact ⟨List.Pairwise.nil, fun x hx => by simp [Lvl.none] at hx⟩
theorem LvOk.setItems {X : List Int} {L : List Lvl} (h : LvOk X L) {j : Nat} {its : List Int} (hs : Srt its) (hm : ∀ x ∈ its, x ∈ X) : LvOk X (setItems L j its) := by
  intro l hl
  unfold Go.Proofs.YtklicjbpjigfdabGreat.setItems at hl
  rcases List.mem_or_eq_of_mem_set hl with hl | rfl
  · exact h l hl
  · exact ⟨hs, hm⟩
theorem LvOk.setTimes {X : List Int} {L : List Lvl} (h : LvOk X L) {j t : Nat} : LvOk X (setTimes L j t) := by
  intro l hl
  unfold Go.Proofs.YtklicjbpjigfdabGreat.setTimes at hl
  rcases List.mem_or_eq_of_mem_set hl with hl | rfl
  · exact h l hl
  · exact h.at j
theorem LvOk.grow1 {X : List Int} {L : List Lvl} (h : LvOk X L) (j : Nat) : LvOk X (grow1 L j) := by
  unfold Go.Proofs.YtklicjbpjigfdabGreat.grow1; split
  · exact h.snoc
  · exact h
theorem LvOk.thin {X : List Int} {L : List Lvl} (h : LvOk X L) (j : Nat) (c : Bool) : LvOk X (thinL L j c) := by
  unfold thinL
  simp only []
  have h0 := h.at j
  have h1 := (h.grow1 j).setItems (j := j) (its := (L.getD j Lvl.none).items.take ((L.getD j Lvl.none).items.length % 2)) (h0.1.sublist (List.take_sublist _ _)) (fun x hx => h0.2 x ((List.take_sublist _ _).subset hx))
  have h2 := h1.setTimes (j := j) (t := ((Go.Proofs.YtklicjbpjigfdabGreat.setItems (Go.Proofs.YtklicjbpjigfdabGreat.grow1 L j) j ((L.getD j Lvl.none).items.take ((L.getD j Lvl.none).items.length % 2))).getD j Lvl.none).times + 1)
  have h3 := h2.at (j + 1)
  have hu : (upOf (L.getD j Lvl.none).items c).Sublist (L.getD j Lvl.none).items := (evens_sub _).trans (List.drop_sublist _ _)
  refine h2.setItems (srt_jn h3.1 (h0.1.sublist hu)) (fun x hx => ?_)
  rcases mem_jn hx with hx | hx
  · exact h3.2 x hx
  · exact h0.2 x (hu.subset hx)
theorem LvOk.bit {X : List Int} {L : List Lvl} (h : LvOk X L) {x : Int} (hx : x ∈ X) (w j : Nat) : LvOk X (bit1 x w L j) := by
  unfold bit1; split
  · have h0 := h.at j
    refine h.setItems (srt_jn h0.1 (List.pairwise_singleton _ _)) (fun y hy => ?_)
    rcases mem_jn hy with hy | hy
    · exact h0.2 y hy
    · have : y = x := by simpa using hy
      subst this; exact hx
  · exact h
theorem LvOk.at1 {X : List Int} {L : List Lvl} (h : LvOk X L) (j : Nat) : LvOk X (at1 L j) := by
  unfold Go.Proofs.YtklicjbpjigfdabGreat.at1; split
  · exact h.snoc
  · exact h
theorem LvOk.with {X : List Int} {x : Int} (hx : x ∈ X) : ∀ {f w j : Nat} {L : List Lvl}, LvOk X L → LvOk X (withFrom x f w j L) := by
  intro f
  induction f with
  | zero => intro w j L h; exact h
  | succ f ih =>
    intro w j L h
    by_cases h0 : w = 0
    · subst h0; rw [withFrom_zero]; exact h
    · rw [withFrom_step (by omega)]
      exact ih ((h.at1 j).bit hx w j)
theorem LvOk.settle {X : List Int} {k : Nat} : ∀ {cs : List Bool} {u : Nat} {L L' : List Lvl} {u' : Nat}, LvOk X L → settle k cs u L = some (L', u') → LvOk X L' := by
  intro cs
  induction cs with
  | nil => intro u L L' u' h hs; simp only [Go.Proofs.YtklicjbpjigfdabGreat.settle] at hs; split at hs <;> simp at hs; rw [← hs.1]; exact h
  | cons c cs ih =>
    intro u L L' u' h hs
    simp only [Go.Proofs.YtklicjbpjigfdabGreat.settle] at hs
    split at hs
    · simp at hs; rw [← hs.1]; exact h
    · exact ih (h.thin _ _) hs
theorem LvOk.mono {X Y : List Int} {L : List Lvl} (h : LvOk X L) (hXY : ∀ x ∈ X, x ∈ Y) : LvOk Y L := fun l hl => ⟨(h l hl).1, fun x hx => hXY x ((h l hl).2 x hx)⟩

/-- How many times, in all. -/
def tsum : List Lvl → Nat
  | [] => 0
  | l :: L => l.times + tsum L
theorem tsum_at (L : List Lvl) (j : Nat) : (L.getD j Lvl.none).times ≤ tsum L := by
  induction L generalizing j with
  | nil => simp [Lvl.none]
  | cons l L ih =>
    cases j with
    | zero => simp [tsum]
    | succ j => have := ih j; simp only [tsum, List.getD_cons_succ]; omega
theorem tsum_snoc (L : List Lvl) : tsum (L ++ [Lvl.none]) = tsum L := by
  induction L with
  | nil => rfl
  | cons l L ih => simp only [List.cons_append, tsum, ih]
theorem setItems_tsum (L : List Lvl) (h : Nat) (X : List Int) : tsum (setItems L h X) = tsum L := by
  induction L generalizing h with
  | nil => simp [setItems]
  | cons l L ih =>
    cases h with
    | zero => simp [setItems, tsum]
    | succ h =>
      have := ih h
      simp only [setItems, List.getD_cons_succ, List.set_cons_succ, tsum] at this ⊢
      omega
theorem setTimes_tsum {L : List Lvl} {h t : Nat} (hh : h < L.length) : tsum (setTimes L h t) + (L.getD h Lvl.none).times = tsum L + t := by
  induction L generalizing h with
  | nil => simp at hh
  | cons l L ih =>
    cases h with
    | zero => simp [setTimes, tsum]; omega
    | succ h =>
      have := ih (h := h) (by simpa using hh)
      simp only [setTimes, List.getD_cons_succ, List.set_cons_succ, tsum] at this ⊢
      omega
theorem thinL_tsum {L : List Lvl} {h : Nat} {c : Bool} (hh : h < L.length) : tsum (thinL L h c) = tsum L + 1 := by
  have hl : h + 1 < (grow1 L h).length := by rw [grow1_length]; split <;> omega
  have e0 : tsum (grow1 L h) = tsum L := by
    unfold grow1; split
    · exact tsum_snoc L
    · rfl
  unfold thinL
  simp only []
  rw [setItems_tsum]
  have e1 := setItems_tsum (grow1 L h) h ((L.getD h Lvl.none).items.take ((L.getD h Lvl.none).items.length % 2))
  have e2 := setTimes_tsum (L := setItems (grow1 L h) h ((L.getD h Lvl.none).items.take ((L.getD h Lvl.none).items.length % 2))) (h := h) (t := ((setItems (grow1 L h) h ((L.getD h Lvl.none).items.take ((L.getD h Lvl.none).items.length % 2))).getD h Lvl.none).times + 1) (by rw [setItems_length]; omega)
  omega
theorem withFrom_tsum {x : Int} : ∀ {f w h : Nat} {L : List Lvl}, tsum (withFrom x f w h L) = tsum L := by
  intro f
  induction f with
  | zero => intro w h L; rfl
  | succ f ih =>
    intro w h L
    by_cases h0 : w = 0
    · subst h0; rw [withFrom_zero]
    · rw [withFrom_step (by omega), ih]
      have e1 : tsum (at1 L h) = tsum L := by
        unfold at1; split
        · exact tsum_snoc L
        · rfl
      unfold bit1; split
      · rw [setItems_tsum, e1]
      · exact e1
/-- No more items come than the weight. -/
theorem withFrom_nw {x : Int} : ∀ {f w h : Nat} {L : List Lvl}, h ≤ L.length → nsum (withFrom x f w h L) ≤ nsum L + w := by
  intro f
  induction f with
  | zero => intro w h L hh; simp [withFrom]
  | succ f ih =>
    intro w h L hh
    by_cases h0 : w = 0
    · subst h0; rw [withFrom_zero]; omega
    · have hl : h < (at1 L h).length := by rw [at1_length]; split <;> omega
      rw [withFrom_step (by omega)]
      have h1 := ih (w := w / 2) (h := h + 1) (L := bit1 x w (at1 L h) h) (by rw [bit1_length]; omega)
      have h2 : nsum (bit1 x w (at1 L h) h) ≤ nsum L + w % 2 := by
        unfold bit1; split
        · have := setItems_nsum (X := jn ((at1 L h).getD h Lvl.none).items [x]) hl
          rw [jn_length, at1_nsum] at this; simp at this; simp; omega
        · rw [at1_nsum]; omega
      omega

theorem crowd_none {k n : Nat} : ∀ {h : Nat} {L : List Lvl}, h + L.length = n → crowd k n h L = Option.none → nsum L ≤ capSum k L.length := by
  intro h L
  induction L generalizing h with
  | nil => intro _ _; simp [nsum, capSum]
  | cons l L ih =>
    intro hn hc
    rw [crowd] at hc
    split at hc
    · cases hc
    · rename_i hle
      have := ih (h := h + 1) (by simp at hn; omega) hc
      have e : n - 1 - h = L.length := by simp at hn; omega
      rw [e] at hle
      simp only [nsum, List.length_cons, capSum]
      omega
theorem toThinL_none {k : Nat} {L : List Lvl} (h : toThinL k L = Option.none) : nsum L ≤ capSum k L.length := by
  unfold toThinL at h
  split at h
  · assumption
  · exact crowd_none (by simp) h

/-- What settling keeps. -/
theorem settle_keeps {k : Nat} : ∀ {cs : List Bool} {u : Nat} {L L' : List Lvl} {u' : Nat}, settle k cs u L = some (L', u') → wsum L ≤ 268435456 → L.length ≤ 29 → wsum L' = wsum L ∧ L'.length ≤ 29 ∧ L.length ≤ L'.length ∧ nsum L' ≤ capSum k L'.length ∧ tsum L' + nsum L' ≤ tsum L + nsum L := by
  intro cs
  induction cs with
  | nil =>
    intro u L L' u' hs hw hl
    simp only [settle] at hs
    split at hs
    · rename_i hn; simp at hs; rw [← hs.1]; exact ⟨rfl, hl, Nat.le_refl _, toThinL_none hn, Nat.le_refl _⟩
    · simp at hs
  | cons c cs ih =>
    intro u L L' u' hs hw hl
    simp only [settle] at hs
    split at hs
    · rename_i hn; simp at hs; rw [← hs.1]; exact ⟨rfl, hl, Nat.le_refl _, toThinL_none hn, Nat.le_refl _⟩
    · rename_i r hr
      obtain ⟨h1, h2, _⟩ := toThinL_some hr
      have e1 := thinL_wsum (c := c) h1
      obtain ⟨a1, a2, a3, a4, a5⟩ := ih hs (by rw [e1]; exact hw) (thinL_len hr hw hl)
      have e2 := thinL_nsum (c := c) h1
      have e3 := thinL_tsum (c := c) h1
      have e4 := thinL_length_ge L r c
      exact ⟨a1.trans e1, a2, by omega, a4, by omega⟩

end Go.Proofs.YtklicjbpjigfdabGreat

/- DERIVED. Thinning a bag is thinning its levels. -/
namespace Go.Proofs.YtklicjbpjigfdabGreat

/-- What becomes of one item where level h is thinned. -/
def thinOne (h odd : Nat) (c : Bool) (a : Int × Nat) (p : Nat) : List (Int × Nat) := if a.2 = h then (if p < odd then [a] else if (p - odd) % 2 = (if c then 1 else 0) then [(a.1, h + 1)] else []) else [a]
def upP (odd : Nat) (c : Bool) (p : Nat) : Bool := !(decide (p < odd)) && decide ((p - odd) % 2 = if c then 1 else 0)
abbrev thinZ (Z : List ((Int × Nat) × Nat)) (h odd : Nat) (c : Bool) (pl : (Int × Nat) × Nat → Nat) : List (Int × Nat) := Z.flatMap fun a => thinOne h odd c a.1 (pl a)
abbrev rkZ (Z : List ((Int × Nat) × Nat)) (h : Nat) (pl : (Int × Nat) × Nat → Nat) : List (Int × Nat) := (Z.filter fun a => a.1.2 == h).map fun a => (a.1.1, pl a)
theorem lvOf_append (a b : List (Int × Nat)) (j : Nat) : lvOf (a ++ b) j = lvOf a j ++ lvOf b j := by simp [lvOf]
theorem lvOf_cons (a : Int × Nat) (b : List (Int × Nat)) (j : Nat) : lvOf (a :: b) j = (if a.2 = j then [a.1] else []) ++ lvOf b j := by
  unfold lvOf
  by_cases e : a.2 = j <;> simp [e]
theorem lvOf_nil (j : Nat) : lvOf [] j = [] := rfl
theorem thinZ_other {h odd j : Nat} {c : Bool} {pl : (Int × Nat) × Nat → Nat} (h1 : j ≠ h) (h2 : j ≠ h + 1) : ∀ Z, lvOf (thinZ Z h odd c pl) j = lvOf (Z.map fun a => a.1) j
  | [] => rfl
  | a :: Z => by
    rw [thinZ, List.flatMap_cons, lvOf_append, List.map_cons, lvOf_cons, thinZ_other h1 h2 Z]
    congr 1
    unfold thinOne
    by_cases e : a.1.2 = h
    · have e0 : ¬ a.1.2 = j := by omega
      have e1 : ¬ h + 1 = j := by omega
      rw [if_pos e, if_neg e0]
      by_cases e2 : pl a < odd
      · rw [if_pos e2, lvOf_cons, if_neg e0]; rfl
      · rw [if_neg e2]
        by_cases e3 : (pl a - odd) % 2 = (if c then 1 else 0)
        · rw [if_pos e3, lvOf_cons, if_neg e1]; rfl
        · rw [if_neg e3]; rfl
    · rw [if_neg e, lvOf_cons]; simp [lvOf_nil]
theorem thinZ_low {h odd : Nat} {c : Bool} {pl : (Int × Nat) × Nat → Nat} : ∀ Z, lvOf (thinZ Z h odd c pl) h = ((rkZ Z h pl).filter fun b => decide (b.2 < odd)).map fun b => b.1
  | [] => rfl
  | a :: Z => by
    rw [thinZ, List.flatMap_cons, lvOf_append, thinZ_low Z]
    unfold thinOne rkZ
    by_cases e : a.1.2 = h
    · by_cases e2 : pl a < odd
      · simp [e, e2, lvOf_cons, lvOf_nil]
      · by_cases e3 : (pl a - odd) % 2 = (if c then 1 else 0)
        · simp [e, e2, e3, lvOf_cons, lvOf_nil]
        · simp [e, e2, e3, lvOf_nil]
    · simp [e, lvOf_cons, lvOf_nil]
theorem thinZ_up {h odd : Nat} {c : Bool} {pl : (Int × Nat) × Nat → Nat} : ∀ Z, (lvOf (thinZ Z h odd c pl) (h + 1)).Perm (lvOf (Z.map fun a => a.1) (h + 1) ++ ((rkZ Z h pl).filter fun b => upP odd c b.2).map fun b => b.1)
  | [] => List.Perm.refl _
  | a :: Z => by
    have ih := thinZ_up (h := h) (odd := odd) (c := c) (pl := pl) Z
    rw [thinZ, List.flatMap_cons, lvOf_append, List.map_cons, lvOf_cons]
    simp only [thinZ, thinOne, rkZ] at ih ⊢
    by_cases e : a.1.2 = h
    · by_cases e2 : pl a < odd
      · simpa [e, e2, lvOf_cons, lvOf_nil, upP] using ih
      · by_cases e3 : (pl a - odd) % 2 = (if c then 1 else 0)
        · have := (ih.cons a.1.1).trans List.perm_middle.symm
          simpa [e, e2, e3, lvOf_cons, lvOf_nil, upP] using this
        · simpa [e, e2, e3, lvOf_nil, upP] using ih
    · by_cases e4 : a.1.2 = h + 1
      · simpa [e, e4, lvOf_cons, lvOf_nil] using ih
      · simpa [e, e4, lvOf_cons, lvOf_nil] using ih

theorem low_take (odd : Nat) : ∀ (l : List Int) (n : Nat), ((l.zipIdx n).filter fun b => decide (b.2 < odd)).map (fun b => b.1) = l.take (odd - n)
  | [], n => by simp
  | x :: l, n => by
    rw [List.zipIdx_cons, List.filter_cons]
    by_cases e : n < odd
    · rw [if_pos (by simpa using e), List.map_cons, low_take odd l (n + 1), show odd - n = (odd - (n + 1)) + 1 by omega, List.take_succ_cons]
    · rw [if_neg (by simpa using e), low_take odd l (n + 1), show odd - n = 0 by omega, show odd - (n + 1) = 0 by omega]; simp
theorem evens_cons (x : Int) (r : List Int) : evens (x :: r) = x :: evens (r.drop 1) := by
  cases r <;> simp [evens]
theorem up_evens (odd : Nat) (c : Bool) : ∀ (l : List Int) (m : Nat), ((l.zipIdx (odd + m)).filter fun b => upP odd c b.2).map (fun b => b.1) = evens (l.drop (if m % 2 = (if c then 1 else 0) then 0 else 1))
  | [], m => by simp [evens]
  | x :: l, m => by
    have ih := up_evens odd c l (m + 1)
    rw [List.zipIdx_cons, List.filter_cons]
    have e0 : ¬ odd + m < odd := by omega
    have e1 : odd + m - odd = m := by omega
    by_cases e : m % 2 = (if c then 1 else 0)
    · have e2 : ¬ (m + 1) % 2 = (if c then 1 else 0) := by cases c <;> simp at e ⊢ <;> omega
      rw [if_pos (by simp [upP, e0, e1, e]), List.map_cons, if_pos e, show odd + m + 1 = odd + (m + 1) by omega, ih, if_neg e2, List.drop_zero, evens_cons]
    · have e2 : (m + 1) % 2 = (if c then 1 else 0) := by cases c <;> simp at e ⊢ <;> omega
      rw [if_neg (by simp [upP, e0, e1, e]), if_neg e, show odd + m + 1 = odd + (m + 1) by omega, ih, if_pos e2]; rfl
theorem up_none (odd : Nat) (c : Bool) : ∀ (l : List Int) (n : Nat), n + l.length ≤ odd → ((l.zipIdx n).filter fun b => upP odd c b.2).map (fun b => b.1) = []
  | [], n, _ => rfl
  | x :: l, n, h => by
    have h' : n + (l.length + 1) ≤ odd := h
    rw [List.zipIdx_cons, List.filter_cons, if_neg (by simp [upP]; omega), up_none odd c l (n + 1) (by omega)]
/-- What goes up is every second one, as the coin says. -/
theorem up_all (c : Bool) (l : List Int) : (l.zipIdx.filter fun b => upP (l.length % 2) c b.2).map (fun b => b.1) = upOf l c := by
  have h1 : l.length % 2 ≤ l.length := Nat.mod_le _ _
  have hl : (l.take (l.length % 2)).length = l.length % 2 := by rw [List.length_take]; omega
  generalize ho : l.length % 2 = odd at *
  have e : l.zipIdx = (l.take odd).zipIdx ++ (l.drop odd).zipIdx (odd + 0) := by
    conv => lhs; rw [← List.take_append_drop odd l, List.zipIdx_append, hl]
    rw [Nat.zero_add]; rfl
  rw [e, List.filter_append, List.map_append, up_none odd c _ 0 (by omega), up_evens, List.nil_append, List.drop_drop]
  unfold upOf
  rw [ho]
  cases c <;> simp

end Go.Proofs.YtklicjbpjigfdabGreat

/- DERIVED. Plain mathematics of the room: so often as a level was thinned, at least its capacity went up; the top level is no higher than the count allows; how many coins are used. -/
namespace Go.Proofs.YtklicjbpjigfdabGreat
open Go.RowKit

theorem capFrom_lo {k t3 t2 : Nat} : ∀ {f c c' : Nat}, c ≤ c' → c' < capFrom k t3 t2 f c → c' < k ∧ c' * t3 < k * t2 := by
  intro f
  induction f with
  | zero => intro c c' h h'; simp [capFrom] at h'; omega
  | succ f ih =>
    intro c c' h h'
    by_cases hs : c < k ∧ c * t3 < k * t2
    · rw [capFrom_step hs] at h'
      by_cases e : c = c'
      · subst e; exact hs
      · exact ih (by omega) h'
    · rw [capFrom_stop hs] at h'; omega
theorem capFrom_end {k t3 t2 : Nat} : ∀ {f c : Nat}, k ≤ c + f → ¬ (capFrom k t3 t2 f c < k ∧ capFrom k t3 t2 f c * t3 < k * t2) := by
  intro f
  induction f with
  | zero => intro c h; simp [capFrom]; omega
  | succ f ih =>
    intro c h
    by_cases hs : c < k ∧ c * t3 < k * t2
    · rw [capFrom_step hs]; exact ih (by omega)
    · rw [capFrom_stop hs]; exact hs
theorem capOf_succ (k d : Nat) : capOf k (d + 1) ≤ capOf k d := by
  apply Nat.le_of_not_lt
  intro hlt
  have h1 := capFrom_lo (capOf_ge k d) (show capOf k d < capFrom k (3 ^ (d + 1)) (2 ^ (d + 1)) k 2 from hlt)
  have h2 := capFrom_end (k := k) (t3 := 3 ^ d) (t2 := 2 ^ d) (f := k) (c := 2) (by omega)
  change ¬ (capOf k d < k ∧ capOf k d * 3 ^ d < k * 2 ^ d) at h2
  apply h2
  refine ⟨h1.1, ?_⟩
  have h3 := h1.2
  rw [Nat.pow_succ, Nat.pow_succ, ← Nat.mul_assoc, ← Nat.mul_assoc] at h3
  generalize capOf k d * 3 ^ d = a at *
  generalize k * 2 ^ d = b at *
  omega
theorem capOf_anti {k d e : Nat} (h : d ≤ e) : capOf k e ≤ capOf k d := by
  induction e with
  | zero => have : d = 0 := by omega
            subst this; exact Nat.le_refl _
  | succ e ih =>
    by_cases he : d = e + 1
    · subst he; exact Nat.le_refl _
    · exact Nat.le_trans (capOf_succ k e) (ih (by omega))

/-- Of each level: so often as it was thinned, at least its capacity went up. -/
def Roomy (k : Nat) : List Lvl → Prop
  | [] => True
  | l :: L => l.times * capOf k L.length ≤ 2 * wsum L ∧ Roomy k L

theorem Roomy.snoc {k : Nat} : ∀ {L : List Lvl}, Roomy k L → Roomy k (L ++ [Lvl.none])
  | [], _ => ⟨by simp [Lvl.none], trivial⟩
  | l :: L, h => ⟨by show l.times * capOf k (L ++ [Lvl.none]).length ≤ 2 * wsum (L ++ [Lvl.none]); rw [wsum_snoc]; exact Nat.le_trans (Nat.mul_le_mul_left _ (capOf_anti (by simp))) h.1, h.2.snoc⟩
theorem setItems_wsum_ge {L : List Lvl} {h : Nat} {X : List Int} (hX : (L.getD h Lvl.none).items.length ≤ X.length) : wsum L ≤ wsum (setItems L h X) := by
  by_cases hh : h < L.length
  · have := setItems_wsum (X := X) hh
    have := Nat.mul_le_mul_left (2 ^ h) hX
    omega
  · rw [show setItems L h X = L from List.set_eq_of_length_le (by omega)]; exact Nat.le_refl _
theorem Roomy.setItems {k : Nat} {X : List Int} : ∀ {L : List Lvl} {h : Nat}, (L.getD h Lvl.none).items.length ≤ X.length → Roomy k L → Roomy k (setItems L h X)
  | [], _, _, _ => by simp [Go.Proofs.YtklicjbpjigfdabGreat.setItems, Roomy]
  | l :: L, 0, _, h => by simpa [Go.Proofs.YtklicjbpjigfdabGreat.setItems, Roomy] using h
  | l :: L, j + 1, hX, h => by
    have hX' : (L.getD j Lvl.none).items.length ≤ X.length := by simpa using hX
    have e : Go.Proofs.YtklicjbpjigfdabGreat.setItems (l :: L) (j + 1) X = l :: Go.Proofs.YtklicjbpjigfdabGreat.setItems L j X := by simp [Go.Proofs.YtklicjbpjigfdabGreat.setItems]
    rw [e]
    refine ⟨?_, h.2.setItems hX'⟩
    rw [setItems_length]
    have := setItems_wsum_ge hX'
    have := h.1
    omega
theorem Roomy.with {k : Nat} {x : Int} : ∀ {f w j : Nat} {L : List Lvl}, Roomy k L → Roomy k (withFrom x f w j L) := by
  intro f
  induction f with
  | zero => intro w j L h; exact h
  | succ f ih =>
    intro w j L h
    by_cases h0 : w = 0
    · subst h0; rw [withFrom_zero]; exact h
    · rw [withFrom_step (by omega)]
      refine ih ?_
      have h1 : Roomy k (at1 L j) := by
        unfold at1; split
        · exact h.snoc
        · exact h
      unfold bit1; split
      · exact h1.setItems (by rw [jn_length]; omega)
      · exact h1

theorem grow1_cons (l : Lvl) (L : List Lvl) (h : Nat) : grow1 (l :: L) (h + 1) = l :: grow1 L h := by
  unfold grow1
  by_cases e : h + 1 = L.length
  · rw [if_pos e, if_pos (by simp; omega)]; rfl
  · rw [if_neg e, if_neg (by simp; omega)]
theorem thinL_succ (l : Lvl) (L : List Lvl) (h : Nat) (c : Bool) : thinL (l :: L) (h + 1) c = l :: thinL L h c := by
  simp only [thinL, grow1_cons, setItems, setTimes, List.getD_cons_succ, List.set_cons_succ]
theorem thinL_one (l : Lvl) (c : Bool) : thinL [l] 0 c = [⟨l.items.take (l.items.length % 2), l.times + 1⟩, ⟨jn [] (upOf l.items c), 0⟩] := by
  simp [thinL, grow1, setItems, setTimes, Lvl.none]
theorem thinL_two (l m : Lvl) (L : List Lvl) (c : Bool) : thinL (l :: m :: L) 0 c = ⟨l.items.take (l.items.length % 2), l.times + 1⟩ :: ⟨jn m.items (upOf l.items c), m.times⟩ :: L := by
  simp [thinL, grow1, setItems, setTimes]
theorem roomy_up {t c c' n a b : Nat} (h : t * c ≤ 2 * a) (hc : c' ≤ c) (hn : c < n) (hb : b = a + n / 2) : (t + 1) * c' ≤ 2 * b := by
  have h1 : (t + 1) * c' ≤ (t + 1) * c := Nat.mul_le_mul_left _ hc
  have h2 : (t + 1) * c = t * c + c := Nat.succ_mul t c
  omega
theorem Roomy.thin {k : Nat} {c : Bool} : ∀ {L : List Lvl} {h : Nat}, h < L.length → capOf k (L.length - 1 - h) < (L.getD h Lvl.none).items.length → Roomy k L → Roomy k (thinL L h c)
  | [], _, hh, _, _ => by simp at hh
  | [l], 0, _, hc, h => by
    rw [thinL_one]
    refine ⟨roomy_up h.1 (capOf_anti (Nat.zero_le _)) (show capOf k 0 < l.items.length by simpa using hc) ?_, ⟨by simp, trivial⟩⟩
    simp [wsum, jn_length, upOf_length]
  | l :: m :: L, 0, _, hc, h => by
    rw [thinL_two]
    refine ⟨roomy_up h.1 (Nat.le_refl _) (show capOf k (L.length + 1) < l.items.length by simpa using hc) ?_, h.2⟩
    simp only [wsum, jn_length, upOf_length]
    omega
  | l :: L, j + 1, hh, hc, h => by
    have hj : j < L.length := by simpa using hh
    rw [thinL_succ]
    refine ⟨?_, h.2.thin hj (by simp only [List.length_cons, List.getD_cons_succ] at hc; rw [show L.length - 1 - j = L.length + 1 - 1 - (j + 1) by omega]; exact hc)⟩
    rw [thinL_wsum hj]
    exact Nat.le_trans (Nat.mul_le_mul_left _ (capOf_anti (thinL_length_ge L j c))) h.1
theorem Roomy.settle {k : Nat} : ∀ {cs : List Bool} {u : Nat} {L L' : List Lvl} {u' : Nat}, Roomy k L → settle k cs u L = some (L', u') → Roomy k L' := by
  intro cs
  induction cs with
  | nil => intro u L L' u' h hs; simp only [Go.Proofs.YtklicjbpjigfdabGreat.settle] at hs; split at hs <;> simp at hs; rw [← hs.1]; exact h
  | cons c cs ih =>
    intro u L L' u' h hs
    simp only [Go.Proofs.YtklicjbpjigfdabGreat.settle] at hs
    split at hs
    · simp at hs; rw [← hs.1]; exact h
    · rename_i r hr
      obtain ⟨h1, _, h3⟩ := toThinL_some hr
      exact ih (h.thin h1 h3) hs
theorem Roomy.at {k : Nat} : ∀ {L : List Lvl} {j : Nat}, j < L.length → Roomy k L → (L.getD j Lvl.none).times * capOf k (L.length - 1 - j) ≤ 2 * wsum (L.drop (j + 1))
  | [], _, hj, _ => by simp at hj
  | l :: L, 0, _, h => by simpa using h.1
  | l :: L, j + 1, hj, h => by
    have := h.2.at (j := j) (by simpa using hj)
    rw [show L.length - 1 - j = (l :: L).length - 1 - (j + 1) by simp; omega] at this
    simpa using this
theorem Roomy.ssum {k : Nat} : ∀ {L : List Lvl}, Roomy k L → ssum L + wsum L ≤ 2 ^ L.length * wsum L
  | [], _ => by simp [Go.Proofs.YtklicjbpjigfdabGreat.ssum, wsum]
  | l :: L, h => by
    have h1 := h.2.ssum
    have h2 : l.times ≤ wsum L := by
      have h3 := h.1
      have := Nat.mul_le_mul_left l.times (capOf_ge k L.length)
      omega
    have h4 : l.items.length ≤ 2 ^ (L.length + 1) * l.items.length := Nat.le_mul_of_pos_left _ (Nat.pow_pos (by decide))
    have h5 : 2 ^ (L.length + 1) * (l.items.length + 2 * wsum L) = 2 ^ (L.length + 1) * l.items.length + 4 * (2 ^ L.length * wsum L) := by
      rw [Nat.mul_add, Nat.pow_succ]
      rw [Nat.mul_assoc (2 ^ L.length) 2 (2 * wsum L), ← Nat.mul_assoc 2 2, Nat.mul_left_comm]
    simp only [Go.Proofs.YtklicjbpjigfdabGreat.ssum, wsum, List.length_cons]
    rw [h5]
    generalize 2 ^ L.length * wsum L = a at *
    omega

/-- The top level is no higher than the count allows. -/
def Tall (L : List Lvl) : Prop := L.length ≤ 1 ∨ 2 ^ (L.length - 1) ≤ wsum L
theorem with_tall {x : Int} : ∀ {f w h : Nat} {L : List Lvl}, h ≤ L.length → (withFrom x f w h L).length = L.length ∨ 2 ^ ((withFrom x f w h L).length - 1) ≤ 2 ^ h * w := by
  intro f
  induction f with
  | zero => intro w h L hh; exact .inl rfl
  | succ f ih =>
    intro w h L hh
    by_cases h0 : w = 0
    · subst h0; rw [withFrom_zero]; exact .inl rfl
    · rw [withFrom_step (by omega)]
      have hl : h < (at1 L h).length := by rw [at1_length]; split <;> omega
      rcases ih (w := w / 2) (h := h + 1) (L := bit1 x w (at1 L h) h) (by rw [bit1_length]; omega) with e | e
      · rw [e, bit1_length, at1_length]
        split
        · right
          rename_i e'
          rw [← e', Nat.add_sub_cancel]
          exact Nat.le_mul_of_pos_right _ (by omega)
        · exact .inl rfl
      · right
        refine Nat.le_trans e ?_
        rw [Nat.pow_succ, Nat.mul_assoc]
        exact Nat.mul_le_mul_left _ (by omega)
theorem Tall.settle {k : Nat} : ∀ {cs : List Bool} {u : Nat} {L L' : List Lvl} {u' : Nat}, Tall L → settle k cs u L = some (L', u') → Tall L' := by
  intro cs
  induction cs with
  | nil => intro u L L' u' h hs; simp only [Go.Proofs.YtklicjbpjigfdabGreat.settle] at hs; split at hs <;> simp at hs; rw [← hs.1]; exact h
  | cons c cs ih =>
    intro u L L' u' h hs
    simp only [Go.Proofs.YtklicjbpjigfdabGreat.settle] at hs
    split at hs
    · simp at hs; rw [← hs.1]; exact h
    · rename_i r hr
      obtain ⟨h1, h2, _⟩ := toThinL_some hr
      refine ih ?_ hs
      unfold Tall
      rw [thinL_wsum h1, thinL_length]
      split
      · right
        rename_i e
        rw [Nat.add_sub_cancel, ← e, Nat.pow_succ]
        have h3 := wsum_at h1
        have := Nat.mul_le_mul_left (2 ^ r) h2
        omega
      · exact h

/-- How many coins are used: as many as there are thinnings; no more than there are items too many. -/
theorem settle_tsum {k : Nat} : ∀ {cs : List Bool} {u : Nat} {L L' : List Lvl} {u' : Nat}, settle k cs u L = some (L', u') → tsum L' + u = tsum L + u' := by
  intro cs
  induction cs with
  | nil => intro u L L' u' hs; simp only [settle] at hs; split at hs <;> simp at hs; rw [← hs.1, ← hs.2]
  | cons c cs ih =>
    intro u L L' u' hs
    simp only [settle] at hs
    split at hs
    · simp at hs; rw [← hs.1, ← hs.2]
    · rename_i r hr
      have := ih hs
      have := thinL_tsum (c := c) (toThinL_some hr).1
      omega
theorem settle_few {k : Nat} : ∀ {cs : List Bool} {u m : Nat} {L L' : List Lvl} {u' : Nat}, nsum L ≤ capSum k L.length + m → settle k cs u L = some (L', u') → u' ≤ u + m := by
  intro cs
  induction cs with
  | nil => intro u m L L' u' _ hs; simp only [settle] at hs; split at hs <;> simp at hs; omega
  | cons c cs ih =>
    intro u m L L' u' hm hs
    simp only [settle] at hs
    split at hs
    · simp at hs; omega
    · rename_i r hr
      obtain ⟨h1, h2, _⟩ := toThinL_some hr
      have h3 := thinL_nsum (c := c) h1
      have h4 := capSum_mono (k := k) (thinL_length_ge L r c)
      have h5 : capSum k L.length < nsum L := by
        unfold toThinL at hr
        split at hr
        · cases hr
        · omega
      have := ih (m := m - 1) (by omega) hs
      omega

end Go.Proofs.YtklicjbpjigfdabGreat
