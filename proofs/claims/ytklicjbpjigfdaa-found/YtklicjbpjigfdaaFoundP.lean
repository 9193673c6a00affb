/- DERIVED. Plain mathematics: what Quantile tells came in, and stands at its place up to the error. -/
import Derived.Test.YtklicjbpjigfdaaFoundA
import Derived.Test.YtklicjbpjigfdaaMe
namespace Go.Proofs.Ytklicjbpjigfdaa
open Go.RowKit

theorem wFilter_congr {p q : Int → Bool} : ∀ {xs : List Int} {ws : List Nat}, (∀ x ∈ xs, p x = q x) → wFilter p xs ws = wFilter q xs ws
  | [], ws, _ => by cases ws <;> simp [wFilter]
  | x :: xs, [], _ => by simp [wFilter]
  | x :: xs, w :: ws, h => by rw [wFilter, wFilter, h x (by simp), wFilter_congr (xs := xs) (fun y hy => h y (by simp [hy]))]

/-- What Quantile tells holds. -/
theorem quant_holds {h : Hd} {s : Sd} {r : Nat} {x : Int} (hc : Came h s) (hn : ∀ q, Near q h.sk.lv (wFilter (fun x => decide (x ≤ q)) s.xs s.ws)) (hr1 : 1 ≤ r) (hr2 : r ≤ s.n) (hq : QPost h.sk.lv h.sk.lo h.sk.hi r x) :
    x ∈ s.xs ∧ r ≤ wFilter (fun y => decide (y ≤ x)) s.xs s.ws + esum h.sk.lv ∧ wFilter (fun y => decide (y < x)) s.xs s.ws + 1 ≤ r + esum h.sk.lv := by
  have hw := hc.inok.n
  have hs := hc.sum
  have elt : wFilter (fun y => decide (y < x)) s.xs s.ws = wFilter (fun y => decide (y ≤ x - 1)) s.xs s.ws := wFilter_congr (fun y _ => by
    by_cases h9 : y < x
    · rw [decide_eq_true h9, decide_eq_true (by omega)]
    · rw [decide_eq_false h9, decide_eq_false (by omega)])
  rcases hc.ends with e | ⟨m1, m2, m3⟩
  · omega
  · unfold QPost at hq
    by_cases h1 : r = 1
    · rw [if_pos h1] at hq
      subst hq
      have p1 := wFilter_pos (p := fun y => decide (y ≤ h.sk.lo)) hc.len hc.pos m1 (by simp)
      have p2 : wFilter (fun y => decide (y < h.sk.lo)) s.xs s.ws = 0 := wFilter_none _ _ _ (fun y hy => by have := m3 y hy; simp; omega)
      exact ⟨m1, by omega, by omega⟩
    · rw [if_neg h1] at hq
      have phi : wFilter (fun y => decide (y ≤ h.sk.hi)) s.xs s.ws = wAll s.ws := wFilter_all _ _ _ hc.len (fun y hy => by have := m3 y hy; simp; omega)
      by_cases h2 : r = wsum h.sk.lv
      · rw [if_pos h2] at hq
        subst hq
        have p2 := wFilter_miss (p := fun y => decide (y < h.sk.hi)) hc.len hc.pos m2 (by simp)
        exact ⟨m2, by omega, by omega⟩
      · rw [if_neg h2] at hq
        have hb := usum_below hr1 hq.none
        have n1 := (hn (x - 1)).2
        rw [← elt] at n1
        rcases hq.good with rfl | ⟨⟨j, hj, hm⟩, hg⟩
        · exact ⟨m2, by omega, by omega⟩
        · have n2 := (hn x).1
          exact ⟨(hc.lvok.at j).2 x hm, by omega, by omega⟩

end Go.Proofs.Ytklicjbpjigfdaa
