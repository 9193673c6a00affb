/- DERIVED. The walks of adds and of the statement Weighs itself. -/
import Derived.Test.YtaajcmoenemmlaaTookP
namespace Go.Proofs.Ytaajcmoenemmlaa
open Go.RowKit
variable {K : Nat → Prop} {w0 : World}

/-- What holds of the statement's world all the way. -/
structure WInv (W : Wd) : Prop where
  len : W.D.sks.length = 3
  tape : W.D.tape = []
  at_ : W.at_ ≤ 140737488355328
  coins : W.coins.size ≤ 140737488355328
  most : W.most = -1
  used : W.used ≤ 29 * ((W.sd 0).n + (W.sd 1).n + (W.sd 2).n)
  came : ∀ i, i < 3 → Came (W.D.sks.getD i Hd.none) (W.sd i)

theorem WInv.ok {W : Wd} (h : WInv W) : WdOk W := by
  have h0 := (h.came 0 (by omega)).inok
  have h1 := (h.came 1 (by omega)).inok
  have h2 := (h.came 2 (by omega)).inok
  have c0 := h0.ok.cnt
  have c1 := h1.ok.cnt
  have c2 := h2.ok.cnt
  have n0 := h0.n
  have n1 := h1.n
  have n2 := h2.n
  have hu := h.used
  exact ⟨h.len, h.tape, h.at_, h.coins, h.most, by omega, fun i hi => (h.came i hi).inok⟩

theorem WInv.add {W : Wd} {p d i : Nat} {ps : Nat → Nat} {x : Int} {wt : Nat} {w' : World} (h : WInv W) (hi : i < 3) (hw1 : 1 ≤ wt) (hw2 : wt ≤ 268435456) (ha : AddPost K w0 p d i ps x wt W w') : ∃ W', WdSt K w0 w' p d 3 ps W' ∧ WInv W' := by
  rcases ha with ⟨_, hst⟩ | ⟨hf, cs, L', a, ha, hs, hcs, hst⟩
  · exact ⟨W, hst, h⟩
  · refine ⟨_, hst, ⟨?_, rfl, ha.1, h.coins, h.most, ?_, fun j hj => ?_⟩⟩
    · show (W.D.sks.set i _).length = 3
      rw [List.length_set]; exact h.len
    · have hu := h.used
      show W.used + cs.length ≤ 29 * ((if 0 = i then (W.sd i).took x wt else W.sd 0).n + (if 1 = i then (W.sd i).took x wt else W.sd 1).n + (if 2 = i then (W.sd i).took x wt else W.sd 2).n)
      have ht : ((W.sd i).took x wt).n = (W.sd i).n + wt := rfl
      have : i = 0 ∨ i = 1 ∨ i = 2 := by omega
      rcases this with rfl | rfl | rfl
      · rw [if_pos rfl, if_neg (by omega), if_neg (by omega), ht]; omega
      · rw [if_neg (by omega), if_pos rfl, if_neg (by omega), ht]; omega
      · rw [if_neg (by omega), if_neg (by omega), if_pos rfl, ht]; omega
    · show Came ((W.D.sks.set i _).getD j Hd.none) (if j = i then (W.sd i).took x wt else W.sd j)
      by_cases e : j = i
      · subst e
        rw [if_pos rfl]
        have : (W.D.sks.set j { sk := { k := (W.D.sks.getD j Hd.none).sk.k, lv := L', lo := addLo (W.D.sks.getD j Hd.none) x, hi := addHi (W.D.sks.getD j Hd.none) x }, sealed := (W.D.sks.getD j Hd.none).sealed }).getD j Hd.none = { sk := { k := (W.D.sks.getD j Hd.none).sk.k, lv := L', lo := addLo (W.D.sks.getD j Hd.none) x, hi := addHi (W.D.sks.getD j Hd.none) x }, sealed := (W.D.sks.getD j Hd.none).sealed } := by
          have hjl : j < W.D.sks.length := by rw [h.len]; exact hj
          simp only [List.getD]
          rw [List.getElem?_set_self hjl]
          rfl
        rw [this]
        exact came_took (h.came j hj) hw1 hw2 hf hs
      · rw [if_neg e]
        have : ∀ z, (W.D.sks.set i z).getD j Hd.none = W.D.sks.getD j Hd.none := fun z => by
          simp only [List.getD]
          rw [List.getElem?_set_ne (Ne.symm e)]
        rw [this]
        exact h.came j hj

theorem came_begun (k : Nat) (h1 : 2 ≤ k) (h2 : k ≤ 64) : Came (Hd.begun k) (Sd.begun k) := by
  refine ⟨⟨⟨h1, h2, by simp [Hd.begun], by simp [Hd.begun], by simp [Hd.begun, wsum, Lvl.none], fun j => ?_⟩, rfl, by simp [Hd.begun, Sd.begun, wsum, Lvl.none], ?_, by simp [Sd.begun], fun i => by simp [Sd.begun]⟩, rfl, rfl, rfl, ?_, by simp [Hd.begun, tsum, nsum, wsum, Lvl.none], .inl rfl, fun v hv => by simp [Sd.begun] at hv⟩
  · have := tsum_at [Lvl.none] j
    show ([Lvl.none].getD j Lvl.none).times ≤ _
    simp only [tsum, Lvl.none] at this ⊢
    omega
  · show nsum [Lvl.none] ≤ _
    simp [nsum, Lvl.none]
  · intro l hl
    have : l = Lvl.none := by simpa [Hd.begun] using hl
    subst this
    exact ⟨List.Pairwise.nil, fun x hx => by simp [Lvl.none] at hx⟩
theorem first_inv (k : Int) (coins : ByteArray) (hc : coins.size ≤ 140737488355328) : WInv (Wd.first k coins 3) := by
  have b0 := kOf_bd k 0
  have b1 := kOf_bd k 1
  have b2 := kOf_bd k 2
  refine ⟨rfl, rfl, Nat.zero_le _, hc, rfl, Nat.zero_le _, fun i hi => ?_⟩
  have : i = 0 ∨ i = 1 ∨ i = 2 := by omega
  rcases this with rfl | rfl | rfl
  · exact came_begun _ b0.1 b0.2
  · exact came_begun _ b1.1 b1.2
  · exact came_begun _ b2.1 b2.2

/-- A step of a script: its four numbers. -/
structure St where
  kd : Int
  a : Int
  b : Int
  c : Int
def St.zero : St := ⟨0, 0, 0, 0⟩
def St.cells (s : St) : List Value := [.int .i64 s.kd, .int .i64 s.a, .int .i64 s.b, .int .i64 s.c]
def stCells : List St → List Value
  | [] => []
  | s :: l => s.cells ++ stCells l
theorem stCells_length : ∀ l : List St, (stCells l).length = l.length * 4
  | [] => rfl
  | s :: l => by simp only [stCells, List.length_append, stCells_length l, St.cells, List.length_cons, List.length_nil]; omega
theorem stCells_snoc (l : List St) (s : St) : stCells (l ++ [s]) = stCells l ++ s.cells := by
  induction l with
  | nil => simp [stCells]
  | cons a l ih => simp [stCells, ih]
theorem stCells_at : ∀ (l : List St) (i j : Nat), i < l.length → j < 4 → (stCells l)[i * 4 + j]? = ((l.getD i St.zero).cells)[j]? := by
  intro l
  induction l with
  | nil => intro i j h; simp at h
  | cons s l ih =>
    intro i j h hj
    cases i with
    | zero => simp only [stCells, Nat.zero_mul, Nat.zero_add]; rw [List.getElem?_append_left (by simp [St.cells]; omega)]; rfl
    | succ i =>
      simp only [stCells]
      rw [List.getElem?_append_right (by simp [St.cells]; omega), show (i + 1) * 4 + j - s.cells.length = i * 4 + j by simp [St.cells]; omega, ih i j (by simpa using h) hj]
      rfl
/-- The steps that let a number come in. -/
def isAdd (s : St) : Bool := s.kd != 1

theorem Try.infoStep : (Try.prog.info? 29).map (fun i => (i.zero, i.size, i.bytes)) = some (some (.agg #[.int .i64 0, .int .i64 0, .int .i64 0, .int .i64 0]), 4, 32) := by kernel_rfl
theorem four_new {w : World} (a b c d : Value) (e : TypeId) : ∀ j u, [a, b, c, d][j]? = some u → (w.alloc (.cells #[a, b, c, d] e)).cell? ((⟨w.heap.size, 0, none⟩ : Addr).add j) = some u := by
  intro j u hu
  match j, hu with
  | 0, hu => simp at hu; subst hu; simp [Addr.add]
  | 1, hu => simp at hu; subst hu; simp [Addr.add]
  | 2, hu => simp at hu; subst hu; simp [Addr.add]
  | 3, hu => simp at hu; subst hu; simp [Addr.add]
theorem filter_step {l : List St} {j : Nat} (h : j < l.length) : (l.take (j + 1)).filter isAdd = (l.take j).filter isAdd ++ (if isAdd (l.getD j St.zero) then [l.getD j St.zero] else []) := by
  rw [List.take_succ_eq_append_getElem h, List.filter_append]
  have : l.getD j St.zero = l[j] := by simp [List.getD, h]
  rw [this]
  simp [List.filter_cons]
theorem filter_len (l : List St) (j : Nat) : ((l.take j).filter isAdd).length ≤ j := by
  have := List.length_filter_le isAdd (l.take j)
  have := List.length_take_le j l
  omega

set_option maxHeartbeats 1000000 in
set_option maxRecDepth 100000 in
theorem adds_any (ao : Option Addr) (n cap : Nat) (ss : List St) (w : World) (hl : ss.length = n) (hr : n * 32 ≤ 140737488351232) (hc : ∀ i, i < n → ∃ b off, ao = some ⟨b, off, none⟩ ∧ b < w.heap.size ∧ w.cell? ⟨b, off + i * 4, none⟩ = some (.int .i64 (ss.getD i St.zero).kd) ∧ w.cell? ⟨b, off + i * 4 + 1, none⟩ = some (.int .i64 (ss.getD i St.zero).a) ∧ w.cell? ⟨b, off + i * 4 + 2, none⟩ = some (.int .i64 (ss.getD i St.zero).b) ∧ w.cell? ⟨b, off + i * 4 + 3, none⟩ = some (.int .i64 (ss.getD i St.zero).c)) :
    Calls Try.prog 12 #[.slice ao n cap] w fun e w' => ∃ a' c', e = .returned (.slice a' (ss.filter isAdd).length c') ∧ w'.ownsRow w.heap.size 29 4 (.slice a' (ss.filter isAdd).length c') (ss.filter isAdd).length (stCells (ss.filter isAdd)) ∧ Below w.heap.size w w' := by
  obtain ⟨i0, hi0, hz0, hz1, hz2⟩ := info_parts Try.infoStep
  have HC := hid hc
  have HL := hid hl
  clear hc hl
  go_enter Try.func12, Try.ntmps12
  go_wp2_with fail
  go_loopw [3, 4] (fun sv si wr => ∃ (j : Nat) (a' : Option Addr) (m c' : Nat) (xs : List St), j ≤ n ∧ si = .int .i64 j ∧ sv = .slice a' m c' ∧ m ≤ j ∧ Hid (xs = (ss.take j).filter isAdd) ∧ Hid (m = xs.length) ∧ Hid (wr.ownsRow w.heap.size 29 4 (.slice a' m c') m (stCells xs)) ∧ Hid (Below w.heap.size w wr)) (fun _ si _ => n - (intOf si).toNat)
  case atStart => exact ⟨0, none, 0, 0, [], Nat.zero_le _, rfl, rfl, Nat.le_refl _, by simp [Hid], rfl, World.ownsRow_nil _ _ _ _, Below.refl _ _⟩
  case round =>
    obtain ⟨j, a', m, c', xs, hj, rfl, rfl, hmj, Hx, Hm, Ho, Hb⟩ := hrel
    have hwz := Hb.out.size
    by_cases hlt : j < n
    · obtain ⟨b, off, rfl, hbz, q0, q1, q2, q3⟩ := HC.out j hlt
      have r0 := (Hb.out.cell (p := ⟨b, off + j * 4, none⟩) hbz).trans q0
      have r1 := (Hb.out.cell (p := ⟨b, off + j * 4 + 1, none⟩) hbz).trans q1
      have r2 := (Hb.out.cell (p := ⟨b, off + j * 4 + 2, none⟩) hbz).trans q2
      have r3 := (Hb.out.cell (p := ⟨b, off + j * 4 + 3, none⟩) hbz).trans q3
      have HF := hid (filter_step (l := ss) (j := j) (by rw [HL.out]; exact hlt))
      generalize ss.getD j St.zero = st at *
      clear q0 q1 q2 q3
      by_cases hk : st.kd = 1
      · have hk' : (st.kd != 1) = false := by simp [hk]
        have HX2 : Hid (xs = (ss.take (j + 1)).filter isAdd) := by unfold Hid; rw [HF.out, show isAdd st = false from hk', ← Hx.out]; simp
        clear hk
        go_wp2_with fail
        go_roundw
        case rel => exact ⟨j + 1, a', m, c', xs, by omega, by go_num, rfl, by omega, HX2, Hm, Ho, Hb⟩
        case measure => simp [intOf]; omega
      · have hk' : (st.kd != 1) = true := by simp [hk]
        have HX2 : Hid (xs ++ [st] = (ss.take (j + 1)).filter isAdd) := by unfold Hid; rw [HF.out, show isAdd st = true from hk', ← Hx.out]; simp
        go_wp2_with (at_builtin; refine wpList_append_lies _ rfl (.tmp 17) (.tmp 22) 22 rfl w.heap.size 29 i0 (.agg #[.int .i64 0, .int .i64 0, .int .i64 0, .int .i64 0]) 4 32 Try.underlying22 hi0 hz0 hz1 hz2 rfl (by decide) (.slice a' m c') m (stCells xs) rfl (Ho.out.alloc _) ⟨wr.heap.size, 0, none⟩ 1 1 [.int .i64 st.kd, .int .i64 st.a, .int .i64 st.b, .int .i64 st.c] rfl rfl (four_new _ _ _ _ _) (by intro u hu; simp at hu; rcases hu with rfl | rfl | rfl | rfl <;> rfl) (by decide) (by unfold maxLen; omega) (by omega) (by simp; omega) (wr.heap.size + 1) (by simp) ?_; intro g2 cap2 w1 hown1 hgrow1 hat1 hlt1)
        go_roundw
        case rel =>
          refine ⟨j + 1, some ⟨g2, 0, none⟩, m + 1, cap2, xs ++ [st], by omega, by go_num, rfl, by omega, HX2, by rw [List.length_append, ← Hm.out]; rfl, ?_, ?_⟩
          · rw [stCells_snoc]; exact hown1
          · refine (Hb.out.alloc hwz _).grown hgrow1 (by simp; omega) (fun q hq => (Ho.out.lt q hq).1)
        case measure => simp [intOf]; omega
    · have HE : Hid (xs = ss.filter isAdd) := by have := Hx.out; rw [List.take_of_length_le (by rw [HL.out]; omega)] at this; exact this
      go_wp2_with fail
      go_ret
      refine ⟨a', c', ?_, ?_, Hb.out⟩
      · rw [← HE.out, ← Hm.out]; rfl
      · rw [← HE.out]; have := Ho.out; rw [Hm.out] at this; exact this

end Go.Proofs.Ytaajcmoenemmlaa
