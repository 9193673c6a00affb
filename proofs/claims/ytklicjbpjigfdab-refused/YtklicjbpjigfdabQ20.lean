/- DERIVED. Plain mathematics: what a sketch into which numbers and sketches came has besides, so that its text is a sketch's: its top level has an item; without a count its ends are 0; what came in is an item as long as nothing was thinned. -/
import Derived.Test.YtklicjbpjigfdabQ19
import Derived.Test.YtklicjbpjigfdabQ1
import Derived.Test.YtklicjbpjigfdabQ4
import Derived.Test.YtklicjbpjigfdabQ7
import Derived.Test.YtklicjbpjigfdabQ15
import Derived.Test.YtklicjbpjigfdabQ11
import Derived.Deep.RegionHeld3
namespace Go.Proofs.Ytklicjbpjigfdab
open Go.RowKit

/-- The top level has an item. -/
def TopN (L : List Lvl) : Prop := (L.getD (L.length - 1) Lvl.none).items ≠ []
def Topped (L : List Lvl) : Prop := L.length ≤ 1 ∨ TopN L

theorem jn_ne {A B : List Int} (h : A ≠ [] ∨ B ≠ []) : jn A B ≠ [] := by
  intro e
  have := jn_length B A
  rw [e] at this
  simp at this
  rcases h with h | h
  · exact h (List.eq_nil_of_length_eq_zero (by omega))
  · exact h (List.eq_nil_of_length_eq_zero (by omega))
theorem getD_setItems {L : List Lvl} {h j : Nat} {X : List Int} (hh : h < L.length) : ((setItems L h X).getD j Lvl.none).items = if j = h then X else (L.getD j Lvl.none).items := by
  by_cases e : j = h
  · subst e; rw [if_pos rfl]; simp [setItems, List.getD, hh]
  · rw [if_neg e, setItems_other (Ne.symm e)]

theorem TopN.bit {x : Int} {w h : Nat} {L : List Lvl} (hh : h < L.length) (ht : TopN L) : TopN (bit1 x w L h) := by
  unfold TopN at *
  rw [bit1_length]
  unfold bit1
  split
  · rw [getD_setItems hh]
    split
    · rename_i e; rw [e] at ht; exact jn_ne (.inl ht)
    · exact ht
  · exact ht
theorem at1_getD (L : List Lvl) (h j : Nat) : (at1 L h).getD j Lvl.none = L.getD j Lvl.none := by
  unfold at1
  split
  · by_cases e : j < L.length
    · simp [List.getD, List.getElem?_append, e]
    · by_cases e2 : j = L.length
      · subst e2; simp [List.getD]
      · simp [List.getD, List.getElem?_append, e, show ¬ j - L.length = 0 by omega]
  · rfl
theorem with_topN {x : Int} : ∀ {f w h : Nat} {L : List Lvl}, 0 < w → w < 2 ^ f → h ≤ L.length → (L.length ≤ h + 1 ∨ TopN L) → TopN (withFrom x f w h L) := by
  intro f
  induction f with
  | zero => intro w h L h0 hw; simp at hw; omega
  | succ f ih =>
    intro w h L h0 hw hh ht
    rw [withFrom_step h0]
    have hl : (at1 L h).length = if h = L.length then L.length + 1 else L.length := at1_length
    have hlt : h < (at1 L h).length := by rw [hl]; split <;> omega
    have hT : L.length ≤ h + 1 → (at1 L h).length = h + 1 := by intro e; rw [hl]; split <;> omega
    have hT2 : ¬ L.length ≤ h + 1 → at1 L h = L := by intro e; unfold at1; rw [if_neg (by omega)]
    by_cases h1 : w / 2 = 0
    · rw [h1, withFrom_zero]
      have hw1 : w = 1 := by omega
      subst hw1
      by_cases hle : L.length ≤ h + 1
      · unfold TopN
        rw [bit1_length, hT hle, Nat.add_sub_cancel]
        unfold bit1
        rw [if_pos (by decide), getD_setItems hlt, if_pos rfl]
        exact jn_ne (.inr (by simp))
      · rw [hT2 hle]
        exact TopN.bit (by omega) (ht.resolve_left hle)
    · refine ih (by omega) (by rw [Nat.pow_succ] at hw; omega) (by rw [bit1_length]; omega) ?_
      rw [bit1_length]
      by_cases hle : L.length ≤ h + 1
      · left; rw [hT hle]; omega
      · right
        rw [hT2 hle]
        exact TopN.bit (by omega) (ht.resolve_left hle)

theorem up_ne {its : List Int} {c : Bool} (h : 2 ≤ its.length) : upOf its c ≠ [] := by
  intro e
  have := congrArg List.length e
  unfold upOf at this
  rw [evens_length, List.length_drop] at this
  simp only [List.length_nil] at this
  split at this <;> omega
theorem thin_topN {L : List Lvl} {h : Nat} {c : Bool} (hh : h < L.length) (h2 : 2 ≤ (L.getD h Lvl.none).items.length) (ht : Topped L) : TopN (thinL L h c) := by
  have hlg : (grow1 L h).length = if h + 1 = L.length then L.length + 1 else L.length := grow1_length
  have hlt : h + 1 < (grow1 L h).length := by rw [hlg]; split <;> omega
  have hup := up_ne (c := c) h2
  unfold TopN
  rw [thinL_length]
  unfold thinL
  simp only []
  rw [getD_setItems (by rw [setTimes_length, setItems_length]; exact hlt)]
  by_cases hne : h + 1 = L.length
  · rw [if_pos hne, if_pos (by omega)]
    exact jn_ne (.inr hup)
  · rw [if_neg hne]
    by_cases e : L.length - 1 = h + 1
    · rw [if_pos e]; exact jn_ne (.inr hup)
    · rw [if_neg e, setTimes_items, getD_setItems (by omega), if_neg (by omega), grow1_at (by omega)]
      rcases ht with ht | ht
      · omega
      · exact ht
theorem Topped.settle {k : Nat} : ∀ {cs : List Bool} {u : Nat} {L L' : List Lvl} {u' : Nat}, Topped L → settle k cs u L = some (L', u') → Topped L' := by
  intro cs
  induction cs with
  | nil => intro u L L' u' h hs; simp only [Go.Proofs.Ytklicjbpjigfdab.settle] at hs; split at hs <;> simp at hs; rw [← hs.1]; exact h
  | cons c cs ih =>
    intro u L L' u' h hs
    simp only [Go.Proofs.Ytklicjbpjigfdab.settle] at hs
    split at hs
    · simp at hs; rw [← hs.1]; exact h
    · rename_i r hr
      obtain ⟨h1, h2, _⟩ := toThinL_some hr
      exact ih (.inr (thin_topN h1 (by omega) h)) hs
theorem TopN.ne {L : List Lvl} (h : TopN L) : L ≠ [] := by rintro rfl; exact h rfl
theorem topN_cons {l : Lvl} {L : List Lvl} (h : L ≠ []) : TopN (l :: L) ↔ TopN L := by
  unfold TopN
  cases L with
  | nil => exact absurd rfl h
  | cons a L => simp
theorem mergeL_ne {L T : List Lvl} (h : L ≠ [] ∨ T ≠ []) : mergeL L T ≠ [] := by
  intro e
  have := congrArg List.length e
  rw [mergeL_length] at this
  simp only [List.length_nil] at this
  rcases h with h | h
  · exact h (List.eq_nil_of_length_eq_zero (by omega))
  · exact h (List.eq_nil_of_length_eq_zero (by omega))
theorem merge_topL : ∀ {T L : List Lvl}, TopN L → T.length ≤ L.length → TopN (mergeL L T)
  | [], L, h, _ => by rw [mergeL_nil]; exact h
  | t :: T, [], h, _ => absurd rfl h.ne
  | t :: T, [l], h, hl => by
    have : T = [] := List.eq_nil_of_length_eq_zero (by simpa using hl)
    subst this
    rw [mergeL, mergeL_nil]
    exact jn_ne (.inl h)
  | t :: T, l :: a :: L, h, hl => by
    rw [mergeL, topN_cons (mergeL_ne (.inl (by simp)))]
    exact merge_topL ((topN_cons (by simp)).1 h) (by simpa using hl)
theorem merge_topR : ∀ {T L : List Lvl}, TopN T → L.length ≤ T.length → TopN (mergeL L T)
  | [], L, h, _ => absurd rfl h.ne
  | [t], [], h, _ => by rw [mergeL, mergeL_nil]; exact jn_ne (.inr h)
  | [t], [l], h, _ => by rw [mergeL, mergeL_nil]; exact jn_ne (.inr h)
  | [t], l :: a :: L, h, hl => by simp at hl
  | t :: b :: T, [], h, _ => by
    rw [mergeL, topN_cons (mergeL_ne (.inr (by simp)))]
    exact merge_topR ((topN_cons (by simp)).1 h) (by simp)
  | t :: b :: T, l :: L, h, hl => by
    rw [mergeL, topN_cons (mergeL_ne (.inr (by simp)))]
    exact merge_topR ((topN_cons (by simp)).1 h) (by simpa using hl)
theorem Topped.merge {L T : List Lvl} (h : Topped L) (k : Topped T) : Topped (mergeL L T) := by
  unfold Topped at *
  rw [mergeL_length]
  rcases Nat.le_total T.length L.length with e | e
  · rcases h with h | h
    · left; omega
    · right; exact merge_topL h e
  · rcases k with k | k
    · left; omega
    · right; exact merge_topR k e

/-! What is an item. -/

/-- y is an item. -/
def InL (y : Int) (L : List Lvl) : Prop := ∃ l ∈ L, y ∈ l.items
theorem mem_jnL {y : Int} : ∀ {B A : List Int}, y ∈ A ∨ y ∈ B → y ∈ jn A B
  | [], A, h => by
    rcases h with h | h
    · exact h
    · simp at h
  | x :: B, A, h => by
    rw [jn, List.mem_append, List.mem_cons]
    rcases h with h | h
    · rw [← List.takeWhile_append_dropWhile (p := fun a => decide (a ≤ x)) (l := A), List.mem_append] at h
      rcases h with h | h
      · exact .inl h
      · exact .inr (.inr (mem_jnL (.inl h)))
    · rcases List.mem_cons.1 h with h | h
      · exact .inr (.inl h)
      · exact .inr (.inr (mem_jnL (.inr h)))
theorem InL.setItems {y : Int} {L : List Lvl} {h : Nat} {X : List Int} (hX : ∀ z ∈ (L.getD h Lvl.none).items, z ∈ X) (hy : InL y L) : InL y (setItems L h X) := by
  obtain ⟨l, hl, hyl⟩ := hy
  obtain ⟨j, hj, rfl⟩ := List.mem_iff_getElem.1 hl
  have hjj : L.getD j Lvl.none = L[j] := by simp [List.getD, hj]
  refine ⟨(Go.Proofs.Ytklicjbpjigfdab.setItems L h X).getD j Lvl.none, ?_, ?_⟩
  · have hj' : j < (Go.Proofs.Ytklicjbpjigfdab.setItems L h X).length := by rw [setItems_length]; exact hj
    rw [List.getD_eq_getElem?_getD, List.getElem?_eq_getElem hj']
    exact List.getElem_mem hj'
  · by_cases e : j = h
    · subst e
      rw [getD_setItems hj, if_pos rfl]
      exact hX y (by rw [hjj]; exact hyl)
    · rw [setItems_other (Ne.symm e), hjj]; exact hyl
theorem InL.at1 {y : Int} {L : List Lvl} {h : Nat} (hy : InL y L) : InL y (at1 L h) := by
  unfold Go.Proofs.Ytklicjbpjigfdab.at1
  split
  · obtain ⟨l, hl, h2⟩ := hy
    exact ⟨l, by simp [hl], h2⟩
  · exact hy
theorem InL.bit {y x : Int} {w h : Nat} {L : List Lvl} (hy : InL y L) : InL y (bit1 x w L h) := by
  unfold bit1
  split
  · exact hy.setItems (fun z hz => mem_jnL (.inl hz))
  · exact hy
theorem InL.with_ {y x : Int} : ∀ {f w h : Nat} {L : List Lvl}, InL y L → InL y (withFrom x f w h L) := by
  intro f
  induction f with
  | zero => intro w h L hy; exact hy
  | succ f ih =>
    intro w h L hy
    by_cases h0 : w = 0
    · subst h0; rw [withFrom_zero]; exact hy
    · rw [withFrom_step (by omega)]
      exact ih hy.at1.bit
theorem inL_with {x : Int} : ∀ {f w h : Nat} {L : List Lvl}, 0 < w → w < 2 ^ f → h ≤ L.length → InL x (withFrom x f w h L) := by
  intro f
  induction f with
  | zero => intro w h L h0 hw; simp at hw; omega
  | succ f ih =>
    intro w h L h0 hw hh
    rw [withFrom_step h0]
    have hlt : h < (at1 L h).length := by rw [at1_length]; split <;> omega
    by_cases hb : w % 2 = 1
    · refine InL.with_ ?_
      unfold bit1
      rw [if_pos hb]
      have hlt' : h < (setItems (Go.Proofs.Ytklicjbpjigfdab.at1 L h) h (jn ((Go.Proofs.Ytklicjbpjigfdab.at1 L h).getD h Lvl.none).items [x])).length := by rw [setItems_length]; exact hlt
      refine ⟨(setItems (Go.Proofs.Ytklicjbpjigfdab.at1 L h) h (jn ((Go.Proofs.Ytklicjbpjigfdab.at1 L h).getD h Lvl.none).items [x])).getD h Lvl.none, ?_, ?_⟩
      · generalize setItems (Go.Proofs.Ytklicjbpjigfdab.at1 L h) h (jn ((Go.Proofs.Ytklicjbpjigfdab.at1 L h).getD h Lvl.none).items [x]) = M at *
        rw [List.getD_eq_getElem?_getD, List.getElem?_eq_getElem hlt']
        exact List.getElem_mem hlt'
      · rw [getD_setItems hlt, if_pos rfl]
        exact mem_jnL (.inr (by simp))
    · refine ih (by omega) (by rw [Nat.pow_succ] at hw; omega) ?_
      rw [bit1_length]; omega
theorem InL.mergeL {y : Int} : ∀ {T L : List Lvl}, InL y L ∨ InL y T → InL y (mergeL L T)
  | [], L, h => by
    rw [mergeL_nil]
    rcases h with h | ⟨l, hl, _⟩
    · exact h
    · simp at hl
  | t :: T, [], h => by
    rcases h with ⟨l, hl, _⟩ | ⟨l, hl, hy⟩
    · simp at hl
    · rw [Go.Proofs.Ytklicjbpjigfdab.mergeL]
      rcases List.mem_cons.1 hl with rfl | hl
      · exact ⟨_, List.mem_cons_self, mem_jnL (.inr hy)⟩
      · obtain ⟨m, hm, h2⟩ := InL.mergeL (T := T) (L := []) (.inr ⟨l, hl, hy⟩)
        exact ⟨m, List.mem_cons_of_mem _ hm, h2⟩
  | t :: T, a :: L, h => by
    rw [Go.Proofs.Ytklicjbpjigfdab.mergeL]
    rcases h with ⟨l, hl, hy⟩ | ⟨l, hl, hy⟩
    · rcases List.mem_cons.1 hl with rfl | hl
      · exact ⟨_, List.mem_cons_self, mem_jnL (.inl hy)⟩
      · obtain ⟨m, hm, h2⟩ := InL.mergeL (T := T) (L := L) (.inl ⟨l, hl, hy⟩)
        exact ⟨m, List.mem_cons_of_mem _ hm, h2⟩
    · rcases List.mem_cons.1 hl with rfl | hl
      · exact ⟨_, List.mem_cons_self, mem_jnL (.inr hy)⟩
      · obtain ⟨m, hm, h2⟩ := InL.mergeL (T := T) (L := L) (.inr ⟨l, hl, hy⟩)
        exact ⟨m, List.mem_cons_of_mem _ hm, h2⟩
theorem settle_same {k : Nat} {cs : List Bool} {L L' : List Lvl} {u' : Nat} (hs : settle k cs 0 L = some (L', u')) (h0 : tsum L' = 0) : L' = L := by
  have h1 := settle_tsum hs
  cases cs with
  | nil => simp only [settle] at hs; split at hs <;> simp at hs; exact hs.1.symm
  | cons c cs =>
    simp only [settle] at hs
    split at hs
    · simp at hs; exact hs.1.symm
    · rename_i r hr
      obtain ⟨h2, _⟩ := toThinL_some hr
      have h3 := settle_tsum hs
      rw [thinL_tsum h2] at h3
      have : ∀ {cs : List Bool} {u : Nat} {L L' : List Lvl} {u' : Nat}, settle k cs u L = some (L', u') → u ≤ u' := by
        intro cs
        induction cs with
        | nil => intro u L L' u' h; simp only [settle] at h; split at h <;> simp at h; omega
        | cons c cs ih =>
          intro u L L' u' h
          simp only [settle] at h
          split at h
          · simp at h; omega
          · have := ih h; omega
      have h4 := this hs
      omega

/-- What a sketch has besides. -/
structure Kp (h : Hd) (s : Sd) : Prop where
  top : Topped h.sk.lv
  zero : wsum h.sk.lv = 0 → h.sk.lo = 0 ∧ h.sk.hi = 0
  rng : ∀ x ∈ s.xs, InRange x
  whole : tsum h.sk.lv = 0 → ∀ x ∈ s.xs, InL x h.sk.lv

theorem kp_took {a : Hd} {s : Sd} {x : Int} {wt : Nat} {cs : List Bool} {L' : List Lvl} {b : Bool} {tk : List (Nat × Nat)} (h : Kp a s) (hx : InRange x) (hl : s.xs.length = s.ws.length) (hw1 : 1 ≤ wt) (hw2 : wt ≤ 268435456)
    (hs : settle a.sk.k cs 0 (addL a x wt) = some (L', cs.length)) (hw : wsum L' = wsum a.sk.lv + wt) : Kp ⟨⟨a.sk.k, L', addLo a x, addHi a x⟩, b, tk⟩ (s.took x wt) := by
  obtain ⟨f1, f2, f3, f4, f5⟩ := put_facts (x := x) (wt := wt) hl
  have hlt : wt < 2 ^ 29 := Nat.lt_of_le_of_lt hw2 (by decide)
  refine ⟨?_, fun h0 => ?_, fun y hy => ?_, fun h0 y hy => ?_⟩
  · refine Topped.settle ?_ hs
    right
    refine with_topN (by omega) hlt (Nat.zero_le _) ?_
    rcases h.top with h | h
    · left; omega
    · right; exact h
  · simp only at h0; omega
  · rcases f5 y hy with h1 | h1
    · exact h.rng y h1
    · subst h1; exact hx
  · simp only at h0 ⊢
    have e := settle_same hs h0
    subst e
    have ht : tsum a.sk.lv = 0 := by have := withFrom_tsum (x := x) (f := 29) (w := wt) (h := 0) (L := a.sk.lv); unfold addL at h0; omega
    rcases f5 y hy with h1 | h1
    · exact InL.with_ (h.whole ht y h1)
    · subst h1; exact inL_with (by omega) hlt (Nat.zero_le _)
theorem putN_mem {s : Sd} {xs : List Int} {ws : List Nat} : ∀ {r : Nat} {y : Int}, r ≤ xs.length → y ∈ (putN s xs ws r).xs → y ∈ s.xs ∨ y ∈ xs
  | 0, y, _, hy => .inl hy
  | r + 1, y, hr, hy => by
    have hy' : y ∈ putXs (putN s xs ws r) (xs.getD r 0) := hy
    unfold putXs at hy'
    have hm : xs.getD r 0 ∈ xs := by rw [List.getD_eq_getElem?_getD, List.getElem?_eq_getElem (by omega)]; exact List.getElem_mem _
    split at hy'
    · exact putN_mem (by omega) hy'
    · rcases List.mem_append.1 hy' with h | h
      · exact putN_mem (by omega) h
      · simp only [List.mem_singleton] at h; subst h; exact .inr hm
theorem kp_joined {a c : Hd} {s t : Sd} {cs : List Bool} {L' : List Lvl} {b : Bool} {tk : List (Nat × Nat)} (h : Kp a s) (k : Kp c t)
    (hs : settle (mgK a c) cs 0 (mgL a c) = some (L', cs.length)) (hw : wsum L' = wsum a.sk.lv + wsum c.sk.lv) : Kp ⟨⟨mgK a c, L', mgLo a c, mgHi a c⟩, b, tk⟩ (s.all t) := by
  have hmem : ∀ y ∈ (s.all t).xs, y ∈ s.xs ∨ y ∈ t.xs := fun y hy => putN_mem (Nat.le_refl _) hy
  refine ⟨?_, fun h0 => ?_, fun y hy => ?_, fun h0 y hy => ?_⟩
  · exact Topped.settle (Topped.merge h.top k.top) hs
  · simp only at h0
    have h1 := h.zero (by omega)
    simp only [mgLo, mgHi, mergeLo, mergeHi]
    rw [if_neg (by omega), if_neg (by omega)]
    exact h1
  · rcases hmem y hy with h1 | h1
    · exact h.rng y h1
    · exact k.rng y h1
  · simp only at h0 ⊢
    have e := settle_same hs h0
    subst e
    have ht := mergeL_tsum c.sk.lv a.sk.lv
    unfold mgL at h0 ⊢
    rcases hmem y hy with h1 | h1
    · exact InL.mergeL (.inl (h.whole (by omega) y h1))
    · exact InL.mergeL (.inr (k.whole (by omega) y h1))

end Go.Proofs.Ytklicjbpjigfdab

/- DERIVED. Plain mathematics: the text of a sketch into which numbers and sketches came is a sketch's. -/
namespace Go.Proofs.Ytklicjbpjigfdab
open Go.RowKit

/-- Of all three. -/
def TInv (W : Wd) : Prop := ∀ i, i < 3 → Kp (W.D.sks.getD i Hd.none) (W.sd i)

theorem kp_begun (k : Nat) : Kp (Hd.begun k) (Sd.begun k) :=
  ⟨.inl (Nat.le_refl _), fun _ => ⟨rfl, rfl⟩, fun x hx => by simp [Sd.begun] at hx, fun _ x hx => by simp [Sd.begun] at hx⟩
theorem first_tinv (k : Int) (coins : ByteArray) : TInv (Wd.first k coins 3) := by
  intro i hi
  have : i = 0 ∨ i = 1 ∨ i = 2 := by omega
  rcases this with rfl | rfl | rfl
  all_goals exact kp_begun _
theorem set_at {l : List Hd} {i j : Nat} {x : Hd} (hi : i < l.length) : (l.set i x).getD j Hd.none = if j = i then x else l.getD j Hd.none := by
  by_cases e : j = i
  · subst e
    rw [if_pos rfl]
    simp only [List.getD]
    rw [List.getElem?_set_self hi]
    rfl
  · rw [if_neg e]
    simp only [List.getD]
    rw [List.getElem?_set_ne (Ne.symm e)]
theorem AddR.kp {i : Nat} {x : Int} {wt : Nat} {W W' : Wd} (h : AddR i x wt W W') (hm : MInv W) (ht : TInv W) (hi : i < 3) (hw1 : 1 ≤ wt) (hw2 : wt ≤ 268435456) (hx : InRange x) : TInv W' := by
  rcases h with ⟨_, rfl⟩ | ⟨hf, cs, L', a, ha, hs, hcs, rfl⟩
  · exact ht
  · intro j hj
    have hil : i < W.D.sks.length := by rw [hm.len]; exact hi
    show Kp ((W.D.sks.set i _).getD j Hd.none) (if j = i then (W.sd i).took x wt else W.sd j)
    rw [set_at hil]
    by_cases e : j = i
    · rw [if_pos e, if_pos e]
      have hc := hm.came i hi
      have hlt : wt < 2 ^ 29 := Nat.lt_of_le_of_lt hw2 (by decide)
      have e1 : wsum (addL (W.D.sks.getD i Hd.none) x wt) = wsum (W.D.sks.getD i Hd.none).sk.lv + wt := by unfold addL; rw [withFrom_wsum hlt (Nat.zero_le _)]; simp
      have e2 : (addL (W.D.sks.getD i Hd.none) x wt).length ≤ 29 := withFrom_length hlt (Nat.zero_le _) hc.inok.ok.len (by omega)
      have hk := (settle_keeps hs (by omega) e2).1
      exact kp_took (ht i hi) hx hc.len hw1 hw2 hs (by omega)
    · rw [if_neg e, if_neg e]
      exact ht j hj
theorem MergeR.kp {i k : Nat} {W W' : Wd} (h : MergeR i k W W') (hm : MInv W) (ht : TInv W) (hi : i < 3) (hk : k < 3) : TInv W' := by
  rcases h with ⟨_, rfl⟩ | ⟨hf, cs, L', a, ha, hs, hcs, rfl⟩
  · exact ht
  · intro j hj
    have hil : i < W.D.sks.length := by rw [hm.len]; exact hi
    show Kp ((W.D.sks.set i _).getD j Hd.none) (if j = i then (W.sd i).all (W.sd k) else W.sd j)
    rw [set_at hil]
    by_cases e : j = i
    · rw [if_pos e, if_pos e]
      have hci := hm.came i hi
      have hcj := hm.came k hk
      have e1 : wsum (mgL (W.D.sks.getD i Hd.none) (W.D.sks.getD k Hd.none)) = wsum (W.D.sks.getD i Hd.none).sk.lv + wsum (W.D.sks.getD k Hd.none).sk.lv := by unfold mgL; rw [mergeL_wsum]
      have e2 : (mgL (W.D.sks.getD i Hd.none) (W.D.sks.getD k Hd.none)).length ≤ 29 := by unfold mgL; rw [mergeL_length]; have := hci.inok.ok.len; have := hcj.inok.ok.len; omega
      have hkk := (settle_keeps hs (by omega) e2).1
      exact kp_joined (ht i hi) (ht k hk) hs (by omega)
    · rw [if_neg e, if_neg e]
      exact ht j hj
theorem StepR.kp {kd A B C : Int} {W W' : Wd} (h : StepR kd A B C W W') (hm : MInv W) (ht : TInv W) (hB : InRange B) : TInv W' := by
  rcases h with ⟨_, h⟩ | ⟨_, h⟩
  · exact h.kp hm ht (pickN_lt A (by omega)) (pickN_lt B (by omega))
  · exact h.kp hm ht (pickN_lt A (by omega)) (weightN_bd C).1 (weightN_bd C).2 hB
theorem PlayR.kp : ∀ {l : List St} {W W' : Wd}, PlayR l W W' → MInv W → TInv W → (∀ s ∈ l, InRange s.b) → TInv W'
  | [], _, _, h, _, ht, _ => by cases h; exact ht
  | s :: l, _, _, ⟨V, h1, h2⟩, hm, ht, hr => h2.kp (h1.inv hm) (h1.kp hm ht (hr s (by simp))) (fun s hs => hr s (by simp [hs]))

/-! So its text is a sketch's. -/

theorem timesB_of {k n : Nat} : ∀ {L : List Lvl} {h : Nat}, h + L.length = n → Roomy k L → timesB k n h L = true
  | [], _, _, _ => rfl
  | l :: L, h, hn, hr => by
    rw [timesB, Bool.and_eq_true, decide_eq_true_eq]
    simp only [List.length_cons] at hn
    refine ⟨?_, timesB_of (by omega) hr.2⟩
    rw [show n - 1 - h = L.length by omega]
    have h1 := Nat.mul_le_mul_left (2 ^ h) hr.1
    have e1 : l.times * 2 ^ h * capOf k L.length = 2 ^ h * (l.times * capOf k L.length) := by grind
    have e2 : 2 ^ (h + 1) * wsum L = 2 ^ h * (2 * wsum L) := by rw [Nat.pow_succ, Nat.mul_assoc]
    rw [e1, e2]; exact h1
theorem srt_rises {l : List Int} (h : Srt l) : risesB l = true := by
  rw [risesB_iff]
  intro t ht
  have := List.pairwise_iff_getElem.1 h t (t + 1) (by omega) ht (by omega)
  simpa [List.getD, ht, show t < l.length by omega] using this
theorem InL.has {x : Int} {L : List Lvl} (h : InL x L) : hasIt x L = true := by
  obtain ⟨l, hl, hx⟩ := h
  unfold hasIt
  rw [List.any_eq_true]
  exact ⟨l, hl, by rw [List.any_eq_true]; exact ⟨x, hx, by simp⟩⟩
theorem tsum_pos : ∀ {L : List Lvl}, 0 < tsum L → thinnedB L = true
  | [], h => by simp [tsum] at h
  | l :: L, h => by
    unfold thinnedB
    rw [List.any_cons, Bool.or_eq_true]
    by_cases e : 0 < l.times
    · left; simp [e]
    · right
      have : 0 < tsum L := by simp only [tsum] at h; omega
      exact tsum_pos this

theorem sound_of {h : Hd} {s : Sd} (hc : Came h s) (hr : Roomy h.sk.k h.sk.lv) (hk : Kp h s) : soundB h.sk = true := by
  have hok := hc.inok.ok
  have hnl := nsum_le h.sk.lv
  simp only [soundB, Bool.and_eq_true]
  refine ⟨?_, timesB_of (by omega) hr, ?_, ?_⟩
  · unfold shapeB
    rw [decide_eq_true_eq]
    refine ⟨hok.k1, hok.k2, hok.len1, hok.len, fun h1 => ?_, hc.inok.set, hok.cnt⟩
    rcases hk.top with ht | ht
    · omega
    · exact List.length_pos_iff.2 ht
  · rw [List.all_eq_true]
    intro l hl
    have h1 := hc.lvok l hl
    unfold lvB
    rw [Bool.and_eq_true, List.all_eq_true]
    refine ⟨fun x hx => ?_, srt_rises h1.1⟩
    have hxs := h1.2 x hx
    rcases hc.ends with h0 | ⟨_, _, h2⟩
    · exfalso
      have e := hc.inok.n
      obtain ⟨j, hj, rfl⟩ := List.mem_iff_getElem.1 hl
      have := nsum_at hj
      have e2 : h.sk.lv.getD j Lvl.none = h.sk.lv[j] := by simp [List.getD, hj]
      rw [e2] at this
      have := List.length_pos_iff.2 (List.ne_nil_of_mem hx)
      omega
    · have := h2 x hxs
      simp [this.1, this.2]
  · unfold endsOK
    rw [Bool.or_eq_true, Bool.or_eq_true, Bool.and_eq_true]
    by_cases h0 : nsum h.sk.lv = 0
    · left; left; simp [h0]
    · by_cases ht : 0 < tsum h.sk.lv
      · left; right; exact tsum_pos ht
      · right
        rcases hc.ends with hn | ⟨h1, h2, _⟩
        · have e := hc.inok.n; omega
        · exact ⟨(hk.whole (by omega) _ h1).has, (hk.whole (by omega) _ h2).has⟩
theorem fits_of {h : Hd} {s : Sd} (hc : Came h s) (hk : Kp h s) : SkFits h.sk := by
  have hok := hc.inok.ok
  have hnl := nsum_le h.sk.lv
  have h230 : capSum h.sk.k h.sk.lv.length ≤ 230 := by
    rw [← capSum_230]; exact Nat.le_trans (capSum_monoK hok.k2 _) (capSum_mono hok.len)
  have hset := hc.inok.set
  have hends : (-9223372036854775808 ≤ h.sk.lo ∧ h.sk.lo ≤ 9223372036854775807) ∧ (-9223372036854775808 ≤ h.sk.hi ∧ h.sk.hi ≤ 9223372036854775807) := by
    rcases hc.ends with h0 | ⟨h1, h2, _⟩
    · have := hk.zero (by rw [← hc.inok.n]; exact h0)
      rw [this.1, this.2]; omega
    · exact ⟨hk.rng _ h1, hk.rng _ h2⟩
  refine ⟨by have := hok.k2; omega, by have := hok.len; omega, fun l hl => ?_, hends.1, hends.2, hk.zero⟩
  obtain ⟨j, hj, rfl⟩ := List.mem_iff_getElem.1 hl
  have h1 := nsum_at hj
  have h2 := tsum_at h.sk.lv j
  have e2 : h.sk.lv.getD j Lvl.none = h.sk.lv[j] := by simp [List.getD, hj]
  rw [e2] at h1 h2
  refine ⟨by omega, ?_, fun x hx => hk.rng x ((hc.lvok _ hl).2 x hx)⟩
  have := hc.tn
  have := hok.cnt
  omega
theorem writeB_eleven (s : Sk) (h : 1 ≤ s.lv.length) : 11 ≤ (writeB s).length := by
  rw [writeB_length, bodyB_length]
  split <;> omega

end Go.Proofs.Ytklicjbpjigfdab

/- DERIVED. The walk of the statement's own alike: two sketches of which the same is told. -/
namespace Go.Proofs.Ytklicjbpjigfdab
open Go.RowKit
variable {K : Nat → Prop} {w0 : World} {nw : Nat}

theorem dumpOf_length (q : Int) (s : Sk) : (dumpOf q s).length = 16 + s.lv.length + (2 * s.lv.length + nsum s.lv) := by
  simp only [dumpOf, dumpHd, dumpEn, dumpLg, dumpRk, List.length_append, timesOf_len, dumpLv_length, List.length_cons, List.length_nil]; omega
theorem txt_ne {l : List Nat} (h : 0 < l.length) : (txt l).toList.isEmpty = false := by
  rw [ByteArray.toList_eq]
  cases l with
  | nil => simp at h
  | cons a l => rfl

set_option maxHeartbeats 1000000 in
set_option maxRecDepth 100000 in
theorem alike_any (p d i j : Nat) (q : Int) (ps : Nat → Nat) (W : Wd) (w : World) (h : WdSt K w0 w p d nw ps W) (hi : i < nw) (hj : j < nw) (hl : W.D.sks.length = nw) (hci : Came (W.D.sks.getD i Hd.none) (W.sd i)) (hri : Roomy (W.D.sks.getD i Hd.none).sk.k (W.D.sks.getD i Hd.none).sk.lv) (hcj : Came (W.D.sks.getD j Hd.none) (W.sd j)) (hrj : Roomy (W.D.sks.getD j Hd.none).sk.k (W.D.sks.getD j Hd.none).sk.lv) (htw : (W.D.sks.getD j Hd.none).sk = (W.D.sks.getD i Hd.none).sk) :
    Calls Try.prog 13 #[.pointer (some ⟨p, 0, none⟩), .int .i64 (i : Int), .int .i64 (j : Int), .int .i64 q] w fun e w' => e = .returned (.bool true) ∧ Below w.heap.size w w' := by
  have HDI := hid (dump_any p d i q ps W w h hi hl hci hri)
  have HDJ := hid (fun (w' : World) (hb : Below w.heap.size w w') => dump_any p d j q ps W w' (h.below hb) hj hl hcj hrj)
  obtain ⟨own, vs, vx, vw, h, _⟩ := h
  have hil : i < W.D.sks.length := by rw [hl]; exact hi
  have hjl : j < W.D.sks.length := by rw [hl]; exact hj
  have HEI := hid (fun (w' : World) (hb : Below w.heap.size w w') => encode_any d W.D i w' (h.desk.below hb) hil hci.inok.ok)
  have HEJ := hid (fun (w' : World) (hb : Below w.heap.size w w') => encode_any d W.D j w' (h.desk.below hb) hjl hcj.inok.ok)
  rw [htw] at HDJ HEJ
  have hpz := lt_of_blk' h.blk
  obtain ⟨c0, _⟩ := blk7 h.blk
  have hdl : (dumpOf q (W.D.sks.getD i Hd.none).sk).length ≤ 1099511627776 := by
    rw [dumpOf_length]
    have := hci.inok.ok.len
    have := hci.inok.ok.cnt
    have := nsum_le (W.D.sks.getD i Hd.none).sk.lv
    omega
  have hne := txt_ne (l := writeB (W.D.sks.getD i Hd.none).sk) (by have := writeB_eleven _ hci.inok.ok.len1; omega)
  generalize dumpOf q (W.D.sks.getD i Hd.none).sk = X at *
  generalize txt (writeB (W.D.sks.getD i Hd.none).sk) = T at *
  clear h hil hjl hci hri hcj hrj htw hl
  go_enter Try.func13, Try.ntmps13
  go_wp2_with fail
  refine HDI.out.mono ?_
  rintro e w1 ⟨v1, rfl, hI1, hb1⟩
  have HI1 := hid hI1
  have HB1 := hid hb1
  clear hI1 hb1 HDI
  go_wp2_with fail
  refine (HDJ.out _ HB1.out).mono ?_
  rintro e w2 ⟨v2, rfl, hI2, hb2⟩
  have HI2 := hid hI2
  have HI12 := hid (HI1.out.below hb2)
  have HB2 := hid (HB1.out.trans (hb2.mono HB1.out.size))
  have c2 := (HB2.out.cell (p := ⟨p, 0, none⟩) hpz).trans c0
  clear hI2 hb2 HDJ HI1
  go_wp2_with fail
  refine (HEI.out _ HB2.out).mono ?_
  rintro e w3 ⟨rfl, hb3⟩
  have HB3 := hid (HB2.out.trans (hb3.mono HB2.out.size))
  have c3 := (HB3.out.cell (p := ⟨p, 0, none⟩) hpz).trans c0
  have HI13 := hid (HI12.out.below hb3)
  have HI23 := hid (HI2.out.below hb3)
  clear hb3 HEI c2 HI12 HI2
  go_wp2_with fail
  refine (HEJ.out _ HB3.out).mono ?_
  rintro e w4 ⟨rfl, hb4⟩
  have HB4 := hid (HB3.out.trans (hb4.mono HB3.out.size))
  have HSI := hid (sameInts_any v1 v2 X w4 (HI13.out.below hb4) (HI23.out.below hb4) hdl)
  clear hb4 HEJ c3 HI13 HI23
  go_wp2_with fail
  refine HSI.out.mono ?_
  rintro e w5 ⟨rfl, hb5⟩
  have HB5 := hid (HB4.out.trans (hb5.mono HB4.out.size))
  clear hb5 HSI
  go_wp2_with fail
  go_ret
  exact ⟨by simp, HB5.out⟩

end Go.Proofs.Ytklicjbpjigfdab

/- DERIVED. What the book agrees with; the walks of look and coins. -/
namespace Go.Proofs.Ytklicjbpjigfdab
open Go.RowKit
attribute [local go_sem ↓] Go.wp_at_zero Go.wp_at_succ
variable {K : Nat → Prop} {w0 : World}

/-- The page that a sketch has. -/
def pgOf (h : Hd) : Pg := ⟨wsum h.sk.lv, h.sealed, sndL h.taken, seqL h.taken⟩
/-- The book of a desk. -/
def bkOf (D : Dk) : Bk := ⟨D.room, D.tape.length, D.sks.map pgOf⟩
theorem bkOf_len (D : Dk) : (bkOf D).pg.length = D.sks.length := by simp [bkOf]
theorem bkOf_at (D : Dk) {i : Nat} (h : i < D.sks.length) : (bkOf D).pg.getD i Pg.none = pgOf (D.sks.getD i Hd.none) := by
  simp [bkOf, List.getD, h]
/-- The text of sketch i. -/
def txtOf (D : Dk) (i : Nat) : ByteArray := txt (writeB (D.sks.getD i Hd.none).sk)

/-- A row of texts grows. -/
structure LkSt (w wr : World) (ao : Option Addr) (n c : Nat) (T : Nat → ByteArray) : Prop where
  bel : Below w.heap.size w wr
  row : wr.ownsRow w.heap.size 9 1 (.slice ao n c) n (strs T n)

set_option maxHeartbeats 2000000 in
set_option maxRecDepth 100000 in
theorem look_any (p d : Nat) (D : Dk) (E : Bk) (ps : Nat → Nat) (w : World) (h : BkSt K w0 w p d D E ps) (hE : E.pg.length = D.sks.length) (hd : DInv D) :
    Calls Try.prog 25 #[.pointer (some ⟨p, 0, none⟩)] w fun e w' => ∃ v, e = .returned (.tuple #[v, .bool true]) ∧ Strs w' v D.sks.length (txtOf D) ∧ (∀ g, v.ownBlock = some g → w.heap.size ≤ g) ∧ Below w.heap.size w w' := by
  obtain ⟨ao0, c0', c0, c1, c2, c3, hpz, cz, _⟩ := h.facts
  rw [hE] at c3
  obtain ⟨F, hdk, _⟩ := h.desk
  have hl8 : D.sks.length ≤ 8 := by have := hd.len; have := hd.room2; omega
  have HEN := hid (fun (i : Nat) (w' : World) (hi : i < D.sks.length) (hb : Below w.heap.size w w') => encode_any d D i w' (hdk.below hb) hi (hd.sk i hi).ok)
  have HE1 := hid (fun (w' : World) (hb : Below w.heap.size w w') => (encode_no d D (D.sks.length : Int) w' (hdk.below hb) (by simp [hasB])).mono (fun e w'' (h : e = .returned (.tuple #[.string ⟨#[]⟩, .int .i64 4]) ∧ w'' = w') => (⟨h.1, by rw [h.2]; exact Below.refl _ _⟩ : e = .returned (.tuple #[.string ⟨#[]⟩, .int .i64 4]) ∧ Below w'.heap.size w' w'')))
  have HE2 := hid (fun (w' : World) (hb : Below w.heap.size w w') => (encode_no d D (-1) w' (hdk.below hb) (by simp [hasB])).mono (fun e w'' (h : e = .returned (.tuple #[.string ⟨#[]⟩, .int .i64 4]) ∧ w'' = w') => (⟨h.1, by rw [h.2]; exact Below.refl _ _⟩ : e = .returned (.tuple #[.string ⟨#[]⟩, .int .i64 4]) ∧ Below w'.heap.size w' w'')))
  have HNE := hid (fun (i : Nat) (hi : i < D.sks.length) => txt_ne (l := writeB (D.sks.getD i Hd.none).sk) (by have := writeB_eleven _ (hd.sk i hi).ok.len1; omega))
  have HTX : Hid (∀ i, txt (writeB (D.sks.getD i Hd.none).sk) = txtOf D i) := fun i => rfl
  obtain ⟨i0, hi0, hz0, hz1, hz2⟩ := info_parts Try.infoStr
  generalize D.sks.length = m at *
  generalize txtOf D = T at *
  clear h hd hdk
  go_enter Try.func25, Try.ntmps25
  go_wp2_with fail
  go_loopw [4, 5] (fun sl si wr => ∃ (r c : Nat) (ao : Option Addr), r ≤ m ∧ sl = .slice ao r c ∧ si = .int .i64 (r : Int) ∧ Hid (LkSt w wr ao r c T)) (fun _ si _ => m - (intOf si).toNat)
  case atStart => exact ⟨0, 0, none, Nat.zero_le _, rfl, rfl, Below.refl _ _, World.ownsRow_nil _ _ _ _⟩
  case round =>
    obtain ⟨r, c, ao, hr, rfl, rfl, Hlk⟩ := hrel
    have q0 := (Hlk.out.bel.cell (p := ⟨p, 0, none⟩) hpz).trans c0
    have q3 := (Hlk.out.bel.cell (p := ⟨p, 3, none⟩) hpz).trans c3
    have hpz1 : p < wr.heap.size := Nat.lt_of_lt_of_le hpz Hlk.out.bel.size
    by_cases hlt : r < m
    · have HE := hid (HEN.out r wr hlt Hlk.out.bel)
      have hne := HNE.out r hlt
      rw [HTX.out] at hne HE
      have HNE' : Hid ((T r).toList.isEmpty = false) := hne
      generalize hTr : T r = t at *
      have HTR := hid hTr
      clear hTr
      go_wp2_with fail
      refine HE.out.mono ?_
      rintro e w3 ⟨rfl, hb3⟩
      have hlk3 : LkSt w w3 ao r c T := ⟨Hlk.out.bel.trans (hb3.mono Hlk.out.bel.size), ownsRow_below Hlk.out.row hb3 (fun _ e => ownsRow_lt Hlk.out.row e)⟩
      have HLK3 := hid hlk3
      have hs3 := hlk3.bel.size
      clear hb3 hlk3 HE
      go_wp2_with (first | (at_builtin; refine wpList_append_lies _ rfl (.tmp 36) (.tmp 38) 61 rfl w.heap.size 9 i0 (.string ByteArray.empty) 1 16 Try.underlying61 hi0 hz0 hz1 hz2 rfl (by decide) (.slice ao r c) r (strs T r) rfl (HLK3.out.row.alloc _) ⟨w3.heap.size, 0, none⟩ 1 1 [.string t] rfl rfl (one_strnew rfl _ _) (one_str _) (by decide) (by unfold maxLen; omega) (by omega) (by simp; omega) (w3.heap.size + 1) (by simp) ?_; intro g5 cap5 w5 hown5 hgrow5 hat5 hlt5; have hlk5 : LkSt w w5 (some ⟨g5, 0, none⟩) (r + 1) cap5 T := ⟨⟨hgrow5.os.trans HLK3.out.bel.os, hgrow5.tape.trans HLK3.out.bel.tape, hgrow5.output.trans HLK3.out.bel.output, by have := hgrow5.size; simp at this; omega, fun b hb => (hgrow5.block b (by simp; omega) (fun e => by have := (HLK3.out.row.lt b e.symm).1; omega)).trans ((Below.heap_alloc _ _ _ (by omega)).trans (HLK3.out.bel.block b hb))⟩, by rw [strs_succ, HTR.out]; exact hown5⟩; have HLK5 := hid hlk5; clear hlk5 hown5 hgrow5 hat5 hlt5))
      go_roundw
      case rel => exact ⟨r + 1, cap5, some ⟨g5, 0, none⟩, by omega, rfl, by go_num, HLK5⟩
      case measure => simp [intOf]; omega
    · have hrm : r = m := by omega
      subst hrm
      have HE := hid (fun (w' : World) (hb : Below wr.heap.size wr w') => HE1.out w' (Hlk.out.bel.trans (hb.mono Hlk.out.bel.size)))
      go_wp2_with fail
      go_region_held3 (fun w' => w'.cell? ⟨p, 0, none⟩ = some (.pointer (some ⟨d, 0, none⟩)) ∧ w'.cell? ⟨p, 3, none⟩ = some (.slice ao0 r c0')) (first | go_keep | exact ⟨(hb5.cell (by exact hpz1)).trans q0, (hb5.cell (by exact hpz1)).trans q3⟩) (first | (go_at_call 10; refine (HE.out _ (bdrewT (Below.refl _ _))).mono ?_; rintro e w5 ⟨rfl, hb5⟩))
      have hb5' := undrew hb5
      have q5 := (hb5'.cell (p := ⟨p, 0, none⟩) hpz1).trans q0
      have HB5 := hid (Hlk.out.bel.trans (hb5'.mono Hlk.out.bel.size))
      have HR5 := hid (ownsRow_below Hlk.out.row hb5' (fun _ e => ownsRow_lt Hlk.out.row e))
      have HE6 := hid (HE2.out w5 HB5.out)
      clear hb5 hb5' q0 q3
      go_wp2_with fail
      refine HE6.out.mono ?_
      rintro e w6 ⟨rfl, hb6⟩
      have HB6 := hid (HB5.out.trans (hb6.mono HB5.out.size))
      have HR6 := hid (ownsRow_below HR5.out hb6 (fun _ e => ownsRow_lt HR5.out e))
      clear hb6 HE6
      go_wp2_with fail
      go_ret2
      exact ⟨_, rfl, ownsRow_base HR6.out (Nat.zero_le _), fun g hg => (HR6.out.lt g hg).1, HB6.out⟩

end Go.Proofs.Ytklicjbpjigfdab
