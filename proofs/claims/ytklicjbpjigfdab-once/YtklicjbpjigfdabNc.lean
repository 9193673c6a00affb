/- DERIVED. What holds of a sketch and of what came in goes on holding when a number comes in. -/
import Derived.Test.YtklicjbpjigfdabKeptW
namespace Go.Proofs.Ytklicjbpjigfdab
open Go.RowKit

theorem put_facts {s : Sd} {x : Int} {wt : Nat} (hl : s.xs.length = s.ws.length) :
    (putXs s x).length = (putWs s x wt).length ∧ wAll (putWs s x wt) = wAll s.ws + wt ∧ x ∈ putXs s x ∧ (∀ y ∈ s.xs, y ∈ putXs s x) ∧ (∀ y ∈ putXs s x, y ∈ s.xs ∨ y = x) := by
  unfold putXs putWs
  cases hf : findAt x 0 s.xs with
  | none =>
    refine ⟨by simp [hl], wAll_snoc _ _, by simp, fun y hy => by simp [hy], fun y hy => ?_⟩
    rcases List.mem_append.1 hy with h | h
    · exact .inl h
    · exact .inr (by simpa using h)
  | some i =>
    obtain ⟨_, h2, h3⟩ := findAt_some hf
    have hx : x ∈ s.xs := by
      simp at h2 h3
      rw [← h3]
      simp [h2]
    exact ⟨by simp [hl], wAll_set (by rw [← hl]; simpa using h2), hx, fun y hy => hy, fun y hy => .inl hy⟩
theorem put_pos {s : Sd} {x : Int} {wt : Nat} (hw : 1 ≤ wt) (hp : ∀ v ∈ s.ws, 1 ≤ v) : ∀ v ∈ putWs s x wt, 1 ≤ v := by
  unfold putWs
  cases hf : findAt x 0 s.xs with
  | none =>
    intro v hv
    rcases List.mem_append.1 hv with h | h
    · exact hp v h
    · have : v = wt := by simpa using h
      omega
  | some i =>
    intro v hv
    rcases List.mem_or_eq_of_mem_set hv with h | rfl
    · exact hp v h
    · omega

theorem came_took {h : Hd} {s : Sd} {x : Int} {wt u : Nat} {cs : List Bool} {L' : List Lvl} (hc : Came h s) (hw1 : 1 ≤ wt) (hw2 : wt ≤ 268435456) (hfull : wsum h.sk.lv + wt ≤ 268435456) (hs : settle h.sk.k cs 0 (addL h x wt) = some (L', u)) :
    Came { sk := { k := h.sk.k, lv := L', lo := addLo h x, hi := addHi h x }, sealed := h.sealed, taken := h.taken } (s.took x wt) := by
  have hlt : wt < 2 ^ 29 := Nat.lt_of_le_of_lt hw2 (by decide)
  have e1 : wsum (addL h x wt) = wsum h.sk.lv + wt := by unfold addL; rw [withFrom_wsum hlt (Nat.zero_le _)]; simp
  have e2 : (addL h x wt).length ≤ 29 := withFrom_length hlt (Nat.zero_le _) hc.inok.ok.len (by omega)
  have e3 : h.sk.lv.length ≤ (addL h x wt).length := withFrom_length_ge (Nat.zero_le _)
  have e4 : tsum (addL h x wt) = tsum h.sk.lv := withFrom_tsum
  have e5 : nsum (addL h x wt) ≤ nsum h.sk.lv + wt := withFrom_nw (Nat.zero_le _)
  obtain ⟨k1, k2, k3, k4, k5⟩ := settle_keeps hs (by omega) e2
  obtain ⟨p1, p2, p3, p4, p5⟩ := put_facts (x := x) (wt := wt) hc.len
  have hpos := put_pos (x := x) hw1 hc.pos
  have htn := hc.tn
  have hn := hc.inok.n
  have hsum := hc.sum
  have hl1 := hc.inok.ok.len1
  have hwl := wAll_len hpos
  have hLw : LvOk (putXs s x) (addL h x wt) := LvOk.with p3 (hc.lvok.mono p4)
  refine ⟨⟨⟨hc.inok.ok.k1, hc.inok.ok.k2, ?_, k2, ?_, fun j => ?_⟩, ?_, k4, ?_, fun j => ?_⟩, hc.k, p1, ?_, hLw.settle hs, ?_, ?_, hpos⟩
  · show 1 ≤ L'.length; omega
  · show wsum L' ≤ _; omega
  · have := tsum_at L' j
    show (L'.getD j Lvl.none).times ≤ _
    omega
  · show s.n + wt = wsum L'; omega
  · show (putXs s x).length ≤ _; rw [p1]; omega
  · have := wAll_at (ws := putWs s x wt) (i := j)
    show (putWs s x wt).getD j 0 ≤ _
    omega
  · show wAll (putWs s x wt) = s.n + wt; omega
  · show tsum L' + nsum L' ≤ wsum L'; omega
  · right
    show addLo h x ∈ putXs s x ∧ addHi h x ∈ putXs s x ∧ ∀ y ∈ putXs s x, addLo h x ≤ y ∧ y ≤ addHi h x
    unfold addLo addHi widenLo widenHi
    rcases hc.ends with h0 | ⟨m1, m2, m3⟩
    · have hx0 : s.xs = [] := by
        have := wAll_len hc.pos
        have hl := hc.len
        exact List.eq_nil_of_length_eq_zero (by omega)
      have hw0 : wsum h.sk.lv = 0 := by omega
      rw [if_pos (.inl hw0), if_pos (.inl hw0)]
      refine ⟨p3, p3, fun y hy => ?_⟩
      rcases p5 y hy with hy | rfl
      · rw [hx0] at hy; simp at hy
      · omega
    · by_cases hw0 : wsum h.sk.lv = 0
      · have : s.xs = [] := by
          have := wAll_len hc.pos
          have hl := hc.len
          exact List.eq_nil_of_length_eq_zero (by omega)
        rw [this] at m1; simp at m1
      · refine ⟨?_, ?_, fun y hy => ?_⟩
        · split
          · exact p3
          · exact p4 _ m1
        · split
          · exact p3
          · exact p4 _ m2
        · rcases p5 y hy with hy | rfl
          · have := m3 y hy
            constructor
            · split <;> rename_i hc'
              · rcases hc' with h' | h' <;> omega
              · omega
            · split <;> rename_i hc'
              · rcases hc' with h' | h' <;> omega
              · omega
          · constructor
            · split <;> rename_i hc'
              · omega
              · omega
            · split <;> rename_i hc'
              · omega
              · omega

end Go.Proofs.Ytklicjbpjigfdab

/- DERIVED. The walks of adds and of the statement Weighs itself. -/
namespace Go.Proofs.Ytklicjbpjigfdab
open Go.RowKit
variable {K : Nat → Prop} {w0 : World}

/-- What holds of the statement's world all the way. -/
structure WInv (W : Wd) : Prop where
  len : W.D.sks.length = 3
  tape : W.D.tape = []
  at_ : W.at_ ≤ 140737488355328
  coins : W.coins.size ≤ 140737488355328
  most : W.most = -1
  used : W.used ≤ 29 * ((W.sd 0).n + (W.sd 1).n + (W.sd 2).n)
  came : ∀ i, i < 3 → Came (W.D.sks.getD i Hd.none) (W.sd i)
  uns : ∀ i, i < 3 → (W.D.sks.getD i Hd.none).sealed = false

theorem WInv.ok {W : Wd} (h : WInv W) : WdOk W := by
  have h0 := (h.came 0 (by omega)).inok
  have h1 := (h.came 1 (by omega)).inok
  have h2 := (h.came 2 (by omega)).inok
  have c0 := h0.ok.cnt
  have c1 := h1.ok.cnt
  have c2 := h2.ok.cnt
  have n0 := h0.n
  have n1 := h1.n
  have n2 := h2.n
  have hu := h.used
  exact ⟨h.len, h.tape, h.at_, h.coins, h.most, by omega, fun i hi => (h.came i hi).inok, h.uns⟩

theorem sealed_set {l : List Hd} {i j : Nat} {x : Hd} (hj : (l.getD j Hd.none).sealed = false) (hx : x.sealed = false) : ((l.set i x).getD j Hd.none).sealed = false := by
  by_cases e : i = j
  · subst e
    by_cases hl : i < l.length
    · simp [List.getD, hl, hx]
    · rw [List.set_eq_of_length_le (by omega)]; exact hj
  · simp only [List.getD]
    rw [List.getElem?_set_ne e]; exact hj
theorem WInv.add {W : Wd} {p d i : Nat} {ps : Nat → Nat} {x : Int} {wt : Nat} {w' : World} (h : WInv W) (hi : i < 3) (hw1 : 1 ≤ wt) (hw2 : wt ≤ 268435456) (ha : AddPost K w0 p d 3 i ps x wt W w') : ∃ W', WdSt K w0 w' p d 3 ps W' ∧ WInv W' := by
  rcases ha with ⟨_, hst⟩ | ⟨hf, cs, L', a, ha, hs, hcs, hst⟩
  · exact ⟨W, hst, h⟩
  · refine ⟨_, hst, ⟨?_, rfl, ha.1, h.coins, h.most, ?_, fun j hj => ?_, fun j hj => sealed_set (h.uns j hj) (h.uns i hi)⟩⟩
    · show (W.D.sks.set i _).length = 3
      rw [List.length_set]; exact h.len
    · have hu := h.used
      show W.used + cs.length ≤ 29 * ((if 0 = i then (W.sd i).took x wt else W.sd 0).n + (if 1 = i then (W.sd i).took x wt else W.sd 1).n + (if 2 = i then (W.sd i).took x wt else W.sd 2).n)
      have ht : ((W.sd i).took x wt).n = (W.sd i).n + wt := rfl
      have : i = 0 ∨ i = 1 ∨ i = 2 := by omega
      rcases this with rfl | rfl | rfl
      · rw [if_pos rfl, if_neg (by omega), if_neg (by omega), ht]; omega
      · rw [if_neg (by omega), if_pos rfl, if_neg (by omega), ht]; omega
      · rw [if_neg (by omega), if_neg (by omega), if_pos rfl, ht]; omega
    · show Came ((W.D.sks.set i _).getD j Hd.none) (if j = i then (W.sd i).took x wt else W.sd j)
      by_cases e : j = i
      · subst e
        rw [if_pos rfl]
        have : (W.D.sks.set j { sk := { k := (W.D.sks.getD j Hd.none).sk.k, lv := L', lo := addLo (W.D.sks.getD j Hd.none) x, hi := addHi (W.D.sks.getD j Hd.none) x }, sealed := (W.D.sks.getD j Hd.none).sealed, taken := (W.D.sks.getD j Hd.none).taken }).getD j Hd.none = { sk := { k := (W.D.sks.getD j Hd.none).sk.k, lv := L', lo := addLo (W.D.sks.getD j Hd.none) x, hi := addHi (W.D.sks.getD j Hd.none) x }, sealed := (W.D.sks.getD j Hd.none).sealed, taken := (W.D.sks.getD j Hd.none).taken } := by
          have hjl : j < W.D.sks.length := by rw [h.len]; exact hj
          simp only [List.getD]
          rw [List.getElem?_set_self hjl]
          rfl
        rw [this]
        exact came_took (h.came j hj) hw1 hw2 hf hs
      · rw [if_neg e]
        have : ∀ z, (W.D.sks.set i z).getD j Hd.none = W.D.sks.getD j Hd.none := fun z => by
          simp only [List.getD]
          rw [List.getElem?_set_ne (Ne.symm e)]
        rw [this]
        exact h.came j hj

theorem came_begun (k : Nat) (h1 : 2 ≤ k) (h2 : k ≤ 64) : Came (Hd.begun k) (Sd.begun k) := by
  refine ⟨⟨⟨h1, h2, by simp [Hd.begun], by simp [Hd.begun], by simp [Hd.begun, wsum, Lvl.none], fun j => ?_⟩, by simp [Hd.begun, Sd.begun, wsum, Lvl.none], ?_, by simp [Sd.begun], fun i => by simp [Sd.begun]⟩, rfl, rfl, rfl, ?_, by simp [Hd.begun, tsum, nsum, wsum, Lvl.none], .inl rfl, fun v hv => by simp [Sd.begun] at hv⟩
  · have := tsum_at [Lvl.none] j
    show ([Lvl.none].getD j Lvl.none).times ≤ _
    simp only [tsum, Lvl.none] at this ⊢
    omega
  · show nsum [Lvl.none] ≤ _
    simp [nsum, Lvl.none]
  · intro l hl
    have : l = Lvl.none := by simpa [Hd.begun] using hl
    subst this
    exact ⟨List.Pairwise.nil, fun x hx => by simp [Lvl.none] at hx⟩
theorem first_inv (k : Int) (coins : ByteArray) (hc : coins.size ≤ 140737488355328) : WInv (Wd.first k coins 3) := by
  have b0 := kOf_bd k 0
  have b1 := kOf_bd k 1
  have b2 := kOf_bd k 2
  refine ⟨rfl, rfl, Nat.zero_le _, hc, rfl, Nat.zero_le _, fun i hi => ?_, fun i hi => ?_⟩
  rotate_left
  · have : i = 0 ∨ i = 1 ∨ i = 2 := by omega
    rcases this with rfl | rfl | rfl <;> rfl
  have : i = 0 ∨ i = 1 ∨ i = 2 := by omega
  rcases this with rfl | rfl | rfl
  · exact came_begun _ b0.1 b0.2
  · exact came_begun _ b1.1 b1.2
  · exact came_begun _ b2.1 b2.2

/-- A step of a script: its four numbers. -/
structure St where
  kd : Int
  a : Int
  b : Int
  c : Int
def St.zero : St := ⟨0, 0, 0, 0⟩
def St.cells (s : St) : List Value := [.int .i64 s.kd, .int .i64 s.a, .int .i64 s.b, .int .i64 s.c]
def stCells : List St → List Value
  | [] => []
  | s :: l => s.cells ++ stCells l
theorem stCells_length : ∀ l : List St, (stCells l).length = l.length * 4
  | [] => rfl
  | s :: l => by simp only [stCells, List.length_append, stCells_length l, St.cells, List.length_cons, List.length_nil]; omega
theorem stCells_snoc (l : List St) (s : St) : stCells (l ++ [s]) = stCells l ++ s.cells := by
  induction l with
  | nil => simp [stCells]
  | cons a l ih => simp [stCells, ih]
theorem stCells_at : ∀ (l : List St) (i j : Nat), i < l.length → j < 4 → (stCells l)[i * 4 + j]? = ((l.getD i St.zero).cells)[j]? := by
  intro l
  induction l with
  | nil => intro i j h; simp at h
  | cons s l ih =>
    intro i j h hj
    cases i with
    | zero => simp only [stCells, Nat.zero_mul, Nat.zero_add]; rw [List.getElem?_append_left (by simp [St.cells]; omega)]; rfl
    | succ i =>
      simp only [stCells]
      rw [List.getElem?_append_right (by simp [St.cells]; omega), show (i + 1) * 4 + j - s.cells.length = i * 4 + j by simp [St.cells]; omega, ih i j (by simpa using h) hj]
      rfl
/-- The steps that let a number come in. -/
def isAdd (s : St) : Bool := s.kd != 1

theorem Try.infoStep : (Try.prog.info? 39).map (fun i => (i.zero, i.size, i.bytes)) = some (some (.agg #[.int .i64 0, .int .i64 0, .int .i64 0, .int .i64 0]), 4, 32) := by kernel_rfl
theorem four_new {w : World} (a b c d : Value) (e : TypeId) : ∀ j u, [a, b, c, d][j]? = some u → (w.alloc (.cells #[a, b, c, d] e)).cell? ((⟨w.heap.size, 0, none⟩ : Addr).add j) = some u := by
  intro j u hu
  match j, hu with
  | 0, hu => simp at hu; subst hu; simp [Addr.add]
  | 1, hu => simp at hu; subst hu; simp [Addr.add]
  | 2, hu => simp at hu; subst hu; simp [Addr.add]
  | 3, hu => simp at hu; subst hu; simp [Addr.add]
theorem filter_step {l : List St} {j : Nat} (h : j < l.length) : (l.take (j + 1)).filter isAdd = (l.take j).filter isAdd ++ (if isAdd (l.getD j St.zero) then [l.getD j St.zero] else []) := by
  rw [List.take_succ_eq_append_getElem h, List.filter_append]
  have : l.getD j St.zero = l[j] := by simp [List.getD, h]
  rw [this]
  simp [List.filter_cons]
theorem filter_len (l : List St) (j : Nat) : ((l.take j).filter isAdd).length ≤ j := by
  have := List.length_filter_le isAdd (l.take j)
  have := List.length_take_le j l
  omega
theorem WdSt.keeps {K : Nat → Prop} {w0 w : World} {p d m : Nat} {ps : Nat → Nat} {W : Wd} (h : WdSt K w0 w p d m ps W) : Keeps K w0 w := by
  obtain ⟨_, _, _, _, _, _, h3⟩ := h
  exact h3

end Go.Proofs.Ytklicjbpjigfdab
