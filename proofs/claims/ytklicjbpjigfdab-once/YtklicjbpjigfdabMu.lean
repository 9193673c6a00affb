/- DERIVED. What came into a sketch, as the statement's own text keeps it: plain mathematics. -/
import Derived.Test.YtklicjbpjigfdabLv
import Derived.Test.YtklicjbpjigfdabNk
namespace Go.Proofs.Ytklicjbpjigfdab

/-- What came in: each number once, with what it weighs. -/
structure Sd where
  xs : List Int
  ws : List Nat
  n : Nat
  k : Nat
  ones : Bool
  gone : Bool

/-- The place of x among the numbers from i on. -/
def findAt (x : Int) : Nat → List Int → Option Nat
  | _, [] => Option.none
  | i, y :: ys => if y = x then some i else findAt x (i + 1) ys
def putXs (s : Sd) (x : Int) : List Int := match findAt x 0 s.xs with
  | some _ => s.xs
  | Option.none => s.xs ++ [x]
def putWs (s : Sd) (x : Int) (w : Nat) : List Nat := match findAt x 0 s.xs with
  | some i => s.ws.set i (s.ws.getD i 0 + w)
  | Option.none => s.ws ++ [w]
def Sd.put (s : Sd) (x : Int) (w : Nat) : Sd := { s with xs := putXs s x, ws := putWs s x w, n := s.n + w }

theorem findAt_drop {x : Int} {l : List Int} {i : Nat} (h : i < l.length) : findAt x i (l.drop i) = if l.getD i 0 = x then some i else findAt x (i + 1) (l.drop (i + 1)) := by
  rw [List.drop_eq_getElem_cons h, findAt]; simp [List.getD, h]
theorem findAt_none {x : Int} : ∀ {l : List Int} {i : Nat}, findAt x i l = Option.none ↔ x ∉ l := by
  intro l
  induction l with
  | nil => intro i; simp [findAt]
  | cons y l ih =>
    intro i
    rw [findAt]
    split
    · rename_i e; simp [e]
    · rename_i e
      rw [ih]
      simp only [List.mem_cons, not_or]
      exact ⟨fun h => ⟨fun e' => e e'.symm, h⟩, fun h => h.2⟩
theorem findAt_some {x : Int} : ∀ {l : List Int} {i r : Nat}, findAt x i l = some r → i ≤ r ∧ r < i + l.length ∧ l.getD (r - i) 0 = x := by
  intro l
  induction l with
  | nil => intro i r h; simp [findAt] at h
  | cons y l ih =>
    intro i r h
    rw [findAt] at h
    split at h
    · cases h
      refine ⟨Nat.le_refl _, by simp, ?_⟩
      simpa using ‹_›
    · obtain ⟨h1, h2, h3⟩ := ih h
      refine ⟨by omega, by simp; omega, ?_⟩
      rw [show r - i = (r - (i + 1)) + 1 by omega]
      simpa using h3

/-- What of it weighs, where p holds. -/
def wFilter (p : Int → Bool) : List Int → List Nat → Nat
  | x :: xs, w :: ws => (if p x then w else 0) + wFilter p xs ws
  | _, _ => 0
def wAll : List Nat → Nat
  | [] => 0
  | w :: ws => w + wAll ws

theorem wFilter_le (p : Int → Bool) : ∀ (xs : List Int) (ws : List Nat), wFilter p xs ws ≤ wAll ws := by
  intro xs
  induction xs with
  | nil => intro ws; cases ws <;> simp [wFilter]
  | cons x xs ih =>
    intro ws
    cases ws with
    | nil => simp [wFilter]
    | cons w ws => have := ih ws; simp only [wFilter, wAll]; split <;> omega
theorem wFilter_drop (p : Int → Bool) {xs : List Int} {ws : List Nat} {i : Nat} (hx : i < xs.length) (hw : i < ws.length) : wFilter p (xs.drop i) (ws.drop i) = (if p (xs.getD i 0) then ws.getD i 0 else 0) + wFilter p (xs.drop (i + 1)) (ws.drop (i + 1)) := by
  rw [List.drop_eq_getElem_cons hx, List.drop_eq_getElem_cons hw, wFilter]; simp [List.getD, hx, hw]
theorem wFilter_end (p : Int → Bool) {xs : List Int} {ws : List Nat} {i : Nat} (hx : xs.length ≤ i) : wFilter p (xs.drop i) (ws.drop i) = 0 := by
  rw [List.drop_eq_nil_of_le hx, wFilter.eq_def]
theorem wFilter_none (p : Int → Bool) : ∀ (xs : List Int) (ws : List Nat), (∀ x ∈ xs, p x = false) → wFilter p xs ws = 0 := by
  intro xs
  induction xs with
  | nil => intro ws _; cases ws <;> simp [wFilter]
  | cons x xs ih =>
    intro ws h
    cases ws with
    | nil => simp [wFilter]
    | cons w ws => rw [wFilter, ih ws (fun y hy => h y (by simp [hy])), h x (by simp)]; simp
theorem wFilter_all (p : Int → Bool) : ∀ (xs : List Int) (ws : List Nat), xs.length = ws.length → (∀ x ∈ xs, p x = true) → wFilter p xs ws = wAll ws := by
  intro xs
  induction xs with
  | nil => intro ws h _; cases ws with | nil => rfl | cons => simp at h
  | cons x xs ih =>
    intro ws hl h
    cases ws with
    | nil => simp at hl
    | cons w ws => rw [wFilter, ih ws (by simpa using hl) (fun y hy => h y (by simp [hy])), h x (by simp), wAll]; simp
theorem wAll_at {ws : List Nat} {i : Nat} : ws.getD i 0 ≤ wAll ws := by
  induction ws generalizing i with
  | nil => simp
  | cons w ws ih =>
    cases i with
    | zero => simp [wAll]
    | succ i => have := ih (i := i); simp only [wAll, List.getD_cons_succ]; omega
theorem wAll_set {ws : List Nat} {i v : Nat} (h : i < ws.length) : wAll (ws.set i (ws.getD i 0 + v)) = wAll ws + v := by
  induction ws generalizing i with
  | nil => simp at h
  | cons w ws ih =>
    cases i with
    | zero => simp [wAll]; omega
    | succ i => have := ih (i := i) (by simpa using h); simp only [wAll, List.set_cons_succ, List.getD_cons_succ] at this ⊢; omega
theorem wAll_snoc (ws : List Nat) (v : Nat) : wAll (ws ++ [v]) = wAll ws + v := by
  induction ws with
  | nil => simp [wAll]
  | cons w ws ih => simp only [List.cons_append, wAll, ih]; omega
theorem wAll_len {ws : List Nat} (h : ∀ w ∈ ws, 1 ≤ w) : ws.length ≤ wAll ws := by
  induction ws with
  | nil => simp [wAll]
  | cons w ws ih => have := ih (fun v hv => h v (by simp [hv])); have := h w (by simp); simp only [wAll, List.length_cons]; omega
def nats (ws : List Nat) : List Int := ws.map fun (n : Nat) => (n : Int)
theorem nats_getD (ws : List Nat) (i : Nat) : (nats ws).getD i 0 = ((ws.getD i 0 : Nat) : Int) := by
  simp only [nats, List.getD, List.getElem?_map]
  cases ws[i]? <;> rfl

end Go.Proofs.Ytklicjbpjigfdab

/- DERIVED. The walks over what came in: in, below, upTo. -/
namespace Go.Proofs.Ytklicjbpjigfdab
open Go.RowKit


theorem blk6 {w : World} {r : Nat} {a b c d x y : Value} {e : TypeId} (h : w.heap[r]? = some (.cells #[a, b, c, d, x, y] e (0, 0))) :
    w.cell? ⟨r, 0, none⟩ = some a ∧ w.cell? ⟨r, 1, none⟩ = some b ∧ w.cell? ⟨r, 2, none⟩ = some c ∧ w.cell? ⟨r, 3, none⟩ = some d ∧ w.cell? ⟨r, 4, none⟩ = some x ∧ w.cell? ⟨r, 5, none⟩ = some y ∧ (∀ o, w.frozen? ⟨r, o, none⟩ = false) := by
  refine ⟨?_, ?_, ?_, ?_, ?_, ?_, fun o => ?_⟩ <;> simp [World.cell?, World.frozen?, h]

/-- What came in lies behind block p, all of it in blocks of G. -/
structure SideAt (G : Nat → Prop) (w : World) (p : Nat) (s : Sd) (vx vw : Value) : Prop where
  blk : w.heap[p]? = some (.cells #[vx, vw, .int .i64 (s.n : Int), .int .i64 (s.k : Int), .bool s.ones, .bool s.gone] 93 (0, 0))
  gp : G p
  ix : Ints w vx s.xs
  iw : Ints w vw (nats s.ws)
  gx : ∀ b, vx.ownBlock = some b → G b
  gw : ∀ b, vw.ownBlock = some b → G b
  ne : ∀ b, vx.ownBlock = some b → vw.ownBlock ≠ some b
  len : s.xs.length = s.ws.length
theorem SideAt.keep {G : Nat → Prop} {w w' : World} {p : Nat} {s : Sd} {vx vw : Value} (h : SideAt G w p s vx vw) (hb : ∀ b, G b → b < w.heap.size → w'.heap[b]? = w.heap[b]?) : SideAt G w' p s vx vw :=
  ⟨(hb p h.gp (lt_of_blk' h.blk)).trans h.blk, h.gp, h.ix.block (fun b e => hb b (h.gx b e) (ownsRow_lt h.ix e)), h.iw.block (fun b e => hb b (h.gw b e) (ownsRow_lt h.iw e)), h.gx, h.gw, h.ne, h.len⟩
theorem SideAt.below {G : Nat → Prop} {w w' : World} {p : Nat} {s : Sd} {vx vw : Value} (h : SideAt G w p s vx vw) (hb : Below w.heap.size w w') : SideAt G w' p s vx vw := h.keep (fun b _ hl => hb.block b hl)

variable {G : Nat → Prop}

set_option maxHeartbeats 400000 in
theorem in_any (p : Nat) (s : Sd) (vx vw : Value) (x : Int) (w : World) (h : SideAt G w p s vx vw) (hl : s.xs.length ≤ 1099511627776) :
    Calls Try.prog 75 #[.pointer (some ⟨p, 0, none⟩), .int .i64 x] w fun e w' => e = .returned (.bool (decide (x ∈ s.xs))) ∧ w' = w := by
  obtain ⟨c0, c1, c2, c3, c4, c5, cz⟩ := blk6 h.blk
  obtain ⟨ao, cc, rfl, hcl, hcm, hno, hso⟩ := h.ix.form
  generalize hxs : s.xs = xs at *
  generalize hn : xs.length = n at *
  have HN := hid hn
  have HNO := hid hno
  have HSO := hid hso
  clear h hno hso hn
  go_enter Try.func75, Try.ntmps75
  go_wp2
  go_loop [5] (fun i => ∃ k : Nat, k ≤ n ∧ i = .int .i64 k ∧ Hid (findAt x 0 xs = findAt x k (xs.drop k))) (fun i => n - (intOf i).toNat)
  case atStart => exact ⟨0, Nat.zero_le _, rfl, by simp [Hid]⟩
  case round =>
    obtain ⟨k, hk, rfl, Hf⟩ := hrel
    by_cases hlt : k < n
    · obtain ⟨gc, rfl⟩ : ∃ g, ao = some ⟨g, 0, none⟩ := by
        cases ao with
        | none => have := (HNO.out rfl).1; rw [this] at HN; have := HN.out; simp at this; omega
        | some a => obtain ⟨g, rfl, _⟩ := HSO.out a rfl; exact ⟨g, rfl⟩
      obtain ⟨gc', e1, hgc, hcc⟩ := HSO.out _ rfl
      cases e1
      have hcell := hcc k hlt
      have HFD := hid (findAt_drop (x := x) (l := xs) (i := k) (by rw [HN.out]; exact hlt))
      generalize xs.getD k 0 = y at *
      clear hcc
      by_cases hy : y = x
      · have hy' : (y == x) = true := by simp [hy]
        have HY := hid hy
        have HM : Hid (x ∈ xs) := by
          unfold Hid
          by_cases hx : x ∈ xs
          · exact hx
          · have := (findAt_none (i := 0)).2 hx; rw [Hf.out, HFD.out, if_pos hy] at this; cases this
        clear hy
        go_wp2
        go_ret
        exact ⟨by simp [HM.out], rfl⟩
      · have hy' : (y == x) = false := by simp [hy]
        go_wp2
        go_round
        case rel =>
          refine ⟨k + 1, by omega, by go_num, ?_⟩
          have := Hf.out; rw [HFD.out, if_neg hy] at this; exact this
        case measure => simp [intOf]; omega
    · have HM : Hid (x ∉ xs) := by
        have := Hf.out
        rw [List.drop_eq_nil_of_le (by rw [HN.out]; omega), findAt] at this
        exact findAt_none.1 this
      go_wp2
      go_ret
      exact ⟨by simp [HM.out], rfl⟩

set_option maxHeartbeats 400000 in
theorem below_any (p : Nat) (s : Sd) (vx vw : Value) (q : Int) (w : World) (h : SideAt G w p s vx vw) (hl : s.xs.length ≤ 1099511627776) (hw : wAll s.ws ≤ 1099511627776) :
    Calls Try.prog 76 #[.pointer (some ⟨p, 0, none⟩), .int .i64 q] w fun e w' => e = .returned (.int .i64 (wFilter (fun x => decide (x < q)) s.xs s.ws : Int)) ∧ w' = w := by
  obtain ⟨c0, c1, c2, c3, c4, c5, cz⟩ := blk6 h.blk
  have hlen := h.len
  have hwl := h.iw.form
  obtain ⟨ao, cc, rfl, hcl, hcm, hno, hso⟩ := h.ix.form
  obtain ⟨bo, cb, rfl, hcl2, hcm2, hno2, hso2⟩ := hwl
  have hnl : (nats s.ws).length = s.xs.length := by simp [nats, hlen]
  generalize hxs : s.xs = xs at *
  generalize hws : s.ws = ws at *
  have hle := wFilter_le (fun x => decide (x < q)) xs ws
  rw [hnl] at hso2 hcl2 c1
  generalize hn : xs.length = n at *
  have HN := hid hn
  have HLEN := hid hlen
  have HNO := hid hno
  have HSO := hid hso
  have HNO2 := hid hno2
  have HSO2 := hid hso2
  have HNL := hid hnl
  clear h hno hso hno2 hso2 hn hlen hnl
  go_enter Try.func76, Try.ntmps76
  go_wp2
  go_loop [5, 6] (fun t i => ∃ k c : Nat, k ≤ n ∧ i = .int .i64 k ∧ t = .int .i64 c ∧ Hid (c + wFilter (fun x => decide (x < q)) (xs.drop k) (ws.drop k) = wFilter (fun x => decide (x < q)) xs ws)) (fun _ i => n - (intOf i).toNat)
  case atStart => exact ⟨0, 0, Nat.zero_le _, rfl, rfl, by simp [Hid]⟩
  case round =>
    obtain ⟨k, c, hk, rfl, rfl, Hf⟩ := hrel
    by_cases hlt : k < n
    · obtain ⟨gc, rfl⟩ : ∃ g, ao = some ⟨g, 0, none⟩ := by
        cases ao with
        | none => have := (HNO.out rfl).1; rw [this] at HN; have := HN.out; simp at this; omega
        | some a => obtain ⟨g, rfl, _⟩ := HSO.out a rfl; exact ⟨g, rfl⟩
      obtain ⟨gd, rfl⟩ : ∃ g, bo = some ⟨g, 0, none⟩ := by
        cases bo with
        | none => have := (HNO2.out rfl).1; have h2 := HNL.out; rw [this] at h2; simp at h2; omega
        | some a => obtain ⟨g, rfl, _⟩ := HSO2.out a rfl; exact ⟨g, rfl⟩
      obtain ⟨gc', e1, hgc, hcc⟩ := HSO.out _ rfl
      cases e1
      obtain ⟨gd', e2, hgd, hcd⟩ := HSO2.out _ rfl
      cases e2
      have hcell := hcc k hlt
      have hcell2 := hcd k hlt
      rw [nats_getD] at hcell2
      have HFD := hid (wFilter_drop (fun x => decide (x < q)) (xs := xs) (ws := ws) (i := k) (by rw [HN.out]; exact hlt) (by rw [← HLEN.out]; exact hlt))
      have hwk := wAll_at (ws := ws) (i := k)
      generalize xs.getD k 0 = y at *
      generalize ws.getD k 0 = v at *
      clear hcc hcd
      by_cases hy : y < q
      · have hcv : c + v ≤ 1099511627776 := by have := Hf.out; have := HFD.out; simp only [hy, decide_true, if_true] at this; omega
        go_wp2
        go_round
        case rel =>
          refine ⟨k + 1, c + v, by omega, by go_num, by go_num, ?_⟩
          have := Hf.out; have h2 := HFD.out; simp only [hy, decide_true, if_true] at h2; unfold Hid; omega
        case measure => simp [intOf]; omega
      · go_wp2
        go_round
        case rel =>
          refine ⟨k + 1, c, by omega, by go_num, rfl, ?_⟩
          have := Hf.out; have h2 := HFD.out; simp only [hy, decide_false, Bool.false_eq_true, if_false] at h2; unfold Hid; omega
        case measure => simp [intOf]; omega
    · have HM : Hid (c = wFilter (fun x => decide (x < q)) xs ws) := by
        have := Hf.out
        rw [wFilter_end _ (by rw [HN.out]; omega)] at this
        exact this
      go_wp2
      go_ret
      exact ⟨ret_int (by rw [HM.out]), rfl⟩

set_option maxHeartbeats 400000 in
theorem upTo_any (p : Nat) (s : Sd) (vx vw : Value) (q : Int) (w : World) (h : SideAt G w p s vx vw) (hl : s.xs.length ≤ 1099511627776) (hw : wAll s.ws ≤ 1099511627776) :
    Calls Try.prog 49 #[.pointer (some ⟨p, 0, none⟩), .int .i64 q] w fun e w' => e = .returned (.int .i64 (wFilter (fun x => decide (x ≤ q)) s.xs s.ws : Int)) ∧ w' = w := by
  obtain ⟨c0, c1, c2, c3, c4, c5, cz⟩ := blk6 h.blk
  have hlen := h.len
  have hwl := h.iw.form
  obtain ⟨ao, cc, rfl, hcl, hcm, hno, hso⟩ := h.ix.form
  obtain ⟨bo, cb, rfl, hcl2, hcm2, hno2, hso2⟩ := hwl
  have hnl : (nats s.ws).length = s.xs.length := by simp [nats, hlen]
  generalize hxs : s.xs = xs at *
  generalize hws : s.ws = ws at *
  have hle := wFilter_le (fun x => decide (x ≤ q)) xs ws
  rw [hnl] at hso2 hcl2 c1
  generalize hn : xs.length = n at *
  have HN := hid hn
  have HLEN := hid hlen
  have HNO := hid hno
  have HSO := hid hso
  have HNO2 := hid hno2
  have HSO2 := hid hso2
  have HNL := hid hnl
  clear h hno hso hno2 hso2 hn hlen hnl
  go_enter Try.func49, Try.ntmps49
  go_wp2
  go_loop [5, 6] (fun t i => ∃ k c : Nat, k ≤ n ∧ i = .int .i64 k ∧ t = .int .i64 c ∧ Hid (c + wFilter (fun x => decide (x ≤ q)) (xs.drop k) (ws.drop k) = wFilter (fun x => decide (x ≤ q)) xs ws)) (fun _ i => n - (intOf i).toNat)
  case atStart => exact ⟨0, 0, Nat.zero_le _, rfl, rfl, by simp [Hid]⟩
  case round =>
    obtain ⟨k, c, hk, rfl, rfl, Hf⟩ := hrel
    by_cases hlt : k < n
    · obtain ⟨gc, rfl⟩ : ∃ g, ao = some ⟨g, 0, none⟩ := by
        cases ao with
        | none => have := (HNO.out rfl).1; rw [this] at HN; have := HN.out; simp at this; omega
        | some a => obtain ⟨g, rfl, _⟩ := HSO.out a rfl; exact ⟨g, rfl⟩
      obtain ⟨gd, rfl⟩ : ∃ g, bo = some ⟨g, 0, none⟩ := by
        cases bo with
        | none => have := (HNO2.out rfl).1; have h2 := HNL.out; rw [this] at h2; simp at h2; omega
        | some a => obtain ⟨g, rfl, _⟩ := HSO2.out a rfl; exact ⟨g, rfl⟩
      obtain ⟨gc', e1, hgc, hcc⟩ := HSO.out _ rfl
      cases e1
      obtain ⟨gd', e2, hgd, hcd⟩ := HSO2.out _ rfl
      cases e2
      have hcell := hcc k hlt
      have hcell2 := hcd k hlt
      rw [nats_getD] at hcell2
      have HFD := hid (wFilter_drop (fun x => decide (x ≤ q)) (xs := xs) (ws := ws) (i := k) (by rw [HN.out]; exact hlt) (by rw [← HLEN.out]; exact hlt))
      have hwk := wAll_at (ws := ws) (i := k)
      generalize xs.getD k 0 = y at *
      generalize ws.getD k 0 = v at *
      clear hcc hcd
      by_cases hy : y ≤ q
      · have hcv : c + v ≤ 1099511627776 := by have := Hf.out; have := HFD.out; simp only [hy, decide_true, if_true] at this; omega
        go_wp2
        go_round
        case rel =>
          refine ⟨k + 1, c + v, by omega, by go_num, by go_num, ?_⟩
          have := Hf.out; have h2 := HFD.out; simp only [hy, decide_true, if_true] at h2; unfold Hid; omega
        case measure => simp [intOf]; omega
      · go_wp2
        go_round
        case rel =>
          refine ⟨k + 1, c, by omega, by go_num, rfl, ?_⟩
          have := Hf.out; have h2 := HFD.out; simp only [hy, decide_false, Bool.false_eq_true, if_false] at h2; unfold Hid; omega
        case measure => simp [intOf]; omega
    · have HM : Hid (c = wFilter (fun x => decide (x ≤ q)) xs ws) := by
        have := Hf.out
        rw [wFilter_end _ (by rw [HN.out]; omega)] at this
        exact this
      go_wp2
      go_ret
      exact ⟨ret_int (by rw [HM.out]), rfl⟩

end Go.Proofs.Ytklicjbpjigfdab
