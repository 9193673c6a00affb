/- DERIVED. What holds of a sketch and of what came in goes on holding when a number comes in. -/
import Derived.Test.YtaajcmoenemmlabKeptW
namespace Go.Proofs.Ytaajcmoenemmlab
open Go.RowKit

theorem put_facts {s : Sd} {x : Int} {wt : Nat} (hl : s.xs.length = s.ws.length) :
    (putXs s x).length = (putWs s x wt).length ∧ wAll (putWs s x wt) = wAll s.ws + wt ∧ x ∈ putXs s x ∧ (∀ y ∈ s.xs, y ∈ putXs s x) ∧ (∀ y ∈ putXs s x, y ∈ s.xs ∨ y = x) := by
  unfold putXs putWs
  cases hf : findAt x 0 s.xs with
  | none =>
    refine ⟨by simp [hl], wAll_snoc _ _, by simp, fun y hy => by simp [hy], fun y hy => ?_⟩
    rcases List.mem_append.1 hy with h | h
    · exact .inl h
    · exact .inr (by simpa using h)
  | some i =>
    obtain ⟨_, h2, h3⟩ := findAt_some hf
    have hx : x ∈ s.xs := by
      simp at h2 h3
      rw [← h3]
      simp [h2]
    exact ⟨by simp [hl], wAll_set (by rw [← hl]; simpa using h2), hx, fun y hy => hy, fun y hy => .inl hy⟩
theorem put_pos {s : Sd} {x : Int} {wt : Nat} (hw : 1 ≤ wt) (hp : ∀ v ∈ s.ws, 1 ≤ v) : ∀ v ∈ putWs s x wt, 1 ≤ v := by
  unfold putWs
  cases hf : findAt x 0 s.xs with
  | none =>
    intro v hv
    rcases List.mem_append.1 hv with h | h
    · exact hp v h
    · have : v = wt := by simpa using h
      omega
  | some i =>
    intro v hv
    rcases List.mem_or_eq_of_mem_set hv with h | rfl
    · exact hp v h
    · omega

theorem came_took {h : Hd} {s : Sd} {x : Int} {wt u : Nat} {cs : List Bool} {L' : List Lvl} (hc : Came h s) (hw1 : 1 ≤ wt) (hw2 : wt ≤ 268435456) (hfull : wsum h.sk.lv + wt ≤ 268435456) (hs : settle h.sk.k cs 0 (addL h x wt) = some (L', u)) :
    Came { sk := { k := h.sk.k, lv := L', lo := addLo h x, hi := addHi h x }, sealed := h.sealed } (s.took x wt) := by
  have hlt : wt < 2 ^ 29 := Nat.lt_of_le_of_lt hw2 (by decide)
  have e1 : wsum (addL h x wt) = wsum h.sk.lv + wt := by unfold addL; rw [withFrom_wsum hlt (Nat.zero_le _)]; simp
  have e2 : (addL h x wt).length ≤ 29 := withFrom_length hlt (Nat.zero_le _) hc.inok.ok.len (by omega)
  have e3 : h.sk.lv.length ≤ (addL h x wt).length := withFrom_length_ge (Nat.zero_le _)
  have e4 : tsum (addL h x wt) = tsum h.sk.lv := withFrom_tsum
  have e5 : nsum (addL h x wt) ≤ nsum h.sk.lv + wt := withFrom_nw (Nat.zero_le _)
  obtain ⟨k1, k2, k3, k4, k5⟩ := settle_keeps hs (by omega) e2
  obtain ⟨p1, p2, p3, p4, p5⟩ := put_facts (x := x) (wt := wt) hc.len
  have hpos := put_pos (x := x) hw1 hc.pos
  have htn := hc.tn
  have hn := hc.inok.n
  have hsum := hc.sum
  have hl1 := hc.inok.ok.len1
  have hwl := wAll_len hpos
  have hLw : LvOk (putXs s x) (addL h x wt) := LvOk.with p3 (hc.lvok.mono p4)
  refine ⟨⟨⟨hc.inok.ok.k1, hc.inok.ok.k2, ?_, k2, ?_, fun j => ?_⟩, hc.inok.uns, ?_, k4, ?_, fun j => ?_⟩, hc.k, p1, ?_, hLw.settle hs, ?_, ?_, hpos⟩
  · show 1 ≤ L'.length; omega
  · show wsum L' ≤ _; omega
  · have := tsum_at L' j
    show (L'.getD j Lvl.none).times ≤ _
    omega
  · show s.n + wt = wsum L'; omega
  · show (putXs s x).length ≤ _; rw [p1]; omega
  · have := wAll_at (ws := putWs s x wt) (i := j)
    show (putWs s x wt).getD j 0 ≤ _
    omega
  · show wAll (putWs s x wt) = s.n + wt; omega
  · show tsum L' + nsum L' ≤ wsum L'; omega
  · right
    show addLo h x ∈ putXs s x ∧ addHi h x ∈ putXs s x ∧ ∀ y ∈ putXs s x, addLo h x ≤ y ∧ y ≤ addHi h x
    unfold addLo addHi widenLo widenHi
    rcases hc.ends with h0 | ⟨m1, m2, m3⟩
    · have hx0 : s.xs = [] := by
        have := wAll_len hc.pos
        have hl := hc.len
        exact List.eq_nil_of_length_eq_zero (by omega)
      have hw0 : wsum h.sk.lv = 0 := by omega
      rw [if_pos (.inl hw0), if_pos (.inl hw0)]
      refine ⟨p3, p3, fun y hy => ?_⟩
      rcases p5 y hy with hy | rfl
      · rw [hx0] at hy; simp at hy
      · omega
    · by_cases hw0 : wsum h.sk.lv = 0
      · have : s.xs = [] := by
          have := wAll_len hc.pos
          have hl := hc.len
          exact List.eq_nil_of_length_eq_zero (by omega)
        rw [this] at m1; simp at m1
      · refine ⟨?_, ?_, fun y hy => ?_⟩
        · split
          · exact p3
          · exact p4 _ m1
        · split
          · exact p3
          · exact p4 _ m2
        · rcases p5 y hy with hy | rfl
          · have := m3 y hy
            constructor
            · split <;> rename_i hc'
              · rcases hc' with h' | h' <;> omega
              · omega
            · split <;> rename_i hc'
              · rcases hc' with h' | h' <;> omega
              · omega
          · constructor
            · split <;> rename_i hc'
              · omega
              · omega
            · split <;> rename_i hc'
              · omega
              · omega

end Go.Proofs.Ytaajcmoenemmlab
