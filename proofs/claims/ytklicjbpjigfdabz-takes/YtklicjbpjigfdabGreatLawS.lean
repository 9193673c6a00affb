/- DERIVED. One step on both desks: Feed, Left. -/
import Derived.Test.YtklicjbpjigfdabGreatQ18
import Derived.Test.YtklicjbpjigfdabGreatQ19
namespace Go.Proofs.YtklicjbpjigfdabGreat
open Go.RowKit
attribute [local go_sem ↓] Go.wp_at_zero Go.wp_at_succ

/-- One step of a script, as a value. -/
abbrev opVal (kd a b c : Int) (s : ByteArray) (vl : Value) : Value := .agg #[.int .i64 kd, .int .i64 a, .int .i64 b, .int .i64 c, .string s, vl]
abbrev opBlk (kd a b c : Int) (s : ByteArray) (vl : Value) : Obj := .cells #[.int .i64 kd, .int .i64 a, .int .i64 b, .int .i64 c, .string s, vl] 30 (0, 0)
theorem blk6 {w : World} {r : Nat} {a b c d x y : Value} {e : TypeId} (h : w.heap[r]? = some (.cells #[a, b, c, d, x, y] e (0, 0))) :
    w.cell? ⟨r, 0, none⟩ = some a ∧ w.cell? ⟨r, 1, none⟩ = some b ∧ w.cell? ⟨r, 2, none⟩ = some c ∧ w.cell? ⟨r, 3, none⟩ = some d ∧ w.cell? ⟨r, 4, none⟩ = some x ∧ w.cell? ⟨r, 5, none⟩ = some y := by
  refine ⟨?_, ?_, ?_, ?_, ?_, ?_⟩ <;> simp [World.cell?, h]

/-- The world, beside which the block q is kept. -/
def LwK (q : Nat) (w0 w : World) (p pd pr : Nat) (D E : Dk) (M : List Le) : Prop := ∃ own vs vw, LwIn own w p pd pr D E vs vw M ∧ (∀ b, own b ≠ 0 → w0.heap.size ≤ b) ∧ Below w0.heap.size w0 w ∧ own q = 0 ∧ q < w.heap.size
theorem LwK.st {q : Nat} {w0 w : World} {p pd pr : Nat} {D E : Dk} {M : List Le} (h : LwK q w0 w p pd pr D E M) : LwSt w0 w p pd pr D E M := by
  obtain ⟨own, vs, vw, h1, h2, h3, _⟩ := h
  exact ⟨own, vs, vw, h1, h2, h3⟩
theorem LwSt.box {w0 w : World} {p pd pr : Nat} {D E : Dk} {M : List Le} (h : LwSt w0 w p pd pr D E M) (o : Obj) : LwK w.heap.size w0 (w.alloc o) p pd pr D E M := by
  obtain ⟨own, vs, vw, h1, h2, h3⟩ := h
  refine ⟨own, vs, vw, h1.below (below_new_al o), h2, h3.alloc h3.size _, ?_, by simp⟩
  by_cases e : own w.heap.size = 0
  · exact e
  · have := h1.lt _ e; omega
theorem LwIn.drew {own : Nat → Nat} {w : World} {p pd pr : Nat} {D E : Dk} {vs vw : Value} {M : List Le} (h : LwIn own w p pd pr D E vs vw M) : LwIn own w.drew p pd pr D E vs vw M := h.below ⟨rfl, rfl, rfl, Nat.le_refl _, fun _ _ => rfl⟩
theorem LwK.drew {q : Nat} {w0 w : World} {p pd pr : Nat} {D E : Dk} {M : List Le} (h : LwK q w0 w p pd pr D E M) : LwK q w0 w.drew p pd pr D E M := by
  obtain ⟨own, vs, vw, h1, h2, h3, h4, h5⟩ := h
  exact ⟨own, vs, vw, h1.drew, h2, ⟨h3.os, h3.tape, h3.output, h3.size, h3.block⟩, h4, h5⟩
theorem LwK.below {q : Nat} {w0 w w' : World} {p pd pr : Nat} {D E : Dk} {M : List Le} (h : LwK q w0 w p pd pr D E M) (hb : Below w.heap.size w w') : LwK q w0 w' p pd pr D E M ∧ w'.heap[q]? = w.heap[q]? := by
  obtain ⟨own, vs, vw, h1, h2, h3, h4, h5⟩ := h
  exact ⟨⟨own, vs, vw, h1.below hb, h2, h3.trans (hb.mono h3.size), h4, Nat.lt_of_lt_of_le h5 hb.size⟩, hb.block q h5⟩
theorem LwK.prog {q : Nat} {w0 w : World} {p pd pr : Nat} {D E : Dk} {M : List Le} (h : LwK q w0 w p pd pr D E M) : ∃ F, DeskAt F w pd D ∧ ∀ w' D', DeskStep F w w' pd D' → LwK q w0 w' p pd pr D' E M ∧ w'.heap[q]? = w.heap[q]? := by
  obtain ⟨own, vs, vw, h1, h2, h3, h4, h5⟩ := h
  refine ⟨_, h1.desk, fun w' D' hs => ?_⟩
  obtain ⟨own', k1, k2, k3⟩ := h1.prog hs
  refine ⟨⟨own', vs, vw, k1, fun b hb => ?_, LwSt.fr h3 h2 k3, ?_, Nat.lt_of_lt_of_le h5 k3.size⟩, k3.block q h5 (by omega)⟩
  · rcases k2 b hb with e | e
    · exact h2 b e
    · exact Nat.le_trans h3.size e
  · by_cases e : own' q = 0
    · exact e
    · rcases k2 q e with e | e <;> omega
theorem LwK.doc {q : Nat} {w0 w : World} {p pd pr : Nat} {D E : Dk} {M : List Le} (h : LwK q w0 w p pd pr D E M) : ∃ G, RAt G w pr E ∧ ∀ w' E', RStep G w w' pr E' → LwK q w0 w' p pd pr D E' M ∧ w'.heap[q]? = w.heap[q]? := by
  obtain ⟨own, vs, vw, h1, h2, h3, h4, h5⟩ := h
  refine ⟨_, h1.ref, fun w' D' hs => ?_⟩
  obtain ⟨own', k1, k2, k3⟩ := h1.doc hs
  refine ⟨⟨own', vs, vw, k1, fun b hb => ?_, LwSt.fr h3 h2 k3, ?_, Nat.lt_of_lt_of_le h5 k3.size⟩, k3.block q h5 (by omega)⟩
  · rcases k2 b hb with e | e
    · exact h2 b e
    · exact Nat.le_trans h3.size e
  · by_cases e : own' q = 0
    · exact e
    · rcases k2 q e with e | e <;> omega
theorem LwK.cells {q : Nat} {w0 w : World} {p pd pr : Nat} {D E : Dk} {M : List Le} (h : LwK q w0 w p pd pr D E M) : w.cell? ⟨p, 0, none⟩ = some (.pointer (some ⟨pd, 0, none⟩)) ∧ w.cell? ⟨p, 1, none⟩ = some (.pointer (some ⟨pr, 0, none⟩)) ∧ p < w.heap.size ∧ q < w.heap.size := by
  obtain ⟨c0, c1, c2⟩ := h.st.cells
  obtain ⟨_, _, _, _, _, _, _, h5⟩ := h
  exact ⟨c0, c1, c2, h5⟩

/-- The document's Feed, held against the desk. -/
theorem rfeedT {G : Nat → Prop} (d : Nat) (t : ByteArray) (D : Dk) (w : World) (h : RAt G w d D) (hd : LInv D) (ht : t.size ≤ 140737488355328) :
    Calls Tryz.prog 23 #[.pointer (some ⟨d, 0, none⟩), .string t] w fun e w' => ∃ c D', e = .returned (.int .i64 c) ∧ RStep G w w' d D' ∧ FeedRel t D c D' := by
  have H0 := RStep.of_below h (Below.refl _ _)
  obtain ⟨s, va, rs, h⟩ := h
  have hss : s.size = D.tape.length := by rw [← h.tape]; simp [coinsOf]
  have hs2 := hd.inv.tape
  refine (rfeed_any d _ s t va w h.blk (by unfold maxLen; omega) (by omega)).mono (fun e w' ha => ?_)
  unfold fdAns at ha
  by_cases hc : areCoins t.data.toList = false
  · rw [if_pos hc] at ha
    exact ⟨2, D, ha.1, by rw [ha.2]; exact H0, .inl ⟨rfl, hc, rfl⟩⟩
  · have hc' : areCoins t.data.toList = true := by cases e9 : areCoins t.data.toList with | true => rfl | false => exact absurd e9 hc
    rw [if_neg hc] at ha
    by_cases hl : 1024 < s.size + t.size
    · rw [if_pos hl] at ha
      exact ⟨3, D, ha.1, by rw [ha.2]; exact H0, .inr ⟨hc', .inl ⟨rfl, by omega, rfl⟩⟩⟩
    · rw [if_neg hl] at ha
      refine ⟨0, _, ha.1, ?_, .inr ⟨hc', .inr ⟨rfl, by omega, rfl⟩⟩⟩
      rw [ha.2]
      have hne : ∀ b, va.ownBlock = some b → b ≠ d := fun b e e2 => by
        subst e2
        obtain ⟨cc, hcc⟩ := ownsRow_blk h.row e
        rw [h.blk] at hcc; cases hcc
      refine h.move (s' := s ++ t) (va' := va) (rs' := rs) (sks' := D.sks) (t' := D.tape ++ coinsOf t.data.toList) ?_ ?_ ?_ (ownsRow_block h.row (fun b e => Below.heap_setCell _ _ _ _ (hne b e))) (fun b e => .inl (h.frow b e)) h.len (fun i hi => ?_) (fun i hi b e => .inl (h.fsk i hi b e)) ((Fr.refl _ w).set (fun _ => h.fd) _)
      · have := blk_set (i := 1) (.string (s ++ t)) h.blk
        simpa using this
      · have h1 := h.coins
        unfold areCoins at *
        rw [ByteArray.data_append, Array.toList_append, List.all_append, h1, hc']; rfl
      · rw [ByteArray.data_append, Array.toList_append]
        unfold coinsOf
        rw [List.map_append]
        congr 1
        exact h.tape
      · exact h.still (fun b hb hbd _ => Below.heap_setCell _ _ _ _ hbd) (h.sk i hi)

/-- What a step leaves. -/
def StepPost (w0 : World) (p pd pr : Nat) (M : List Le) (w' : World) : Prop := ∃ D' M', LwSt w0 w' p pd pr D' D' M' ∧ LInv D' ∧ M'.length ≤ M.length + 1 ∧ ∀ i, i < M'.length → (M'.getD i Le.none).xs.length ≤ 1099511627776
theorem StepPost.same {w0 : World} {p pd pr : Nat} {M : List Le} {w' : World} {D : Dk} (h : LwSt w0 w' p pd pr D D M) (hd : LInv D) (hx : ∀ i, i < M.length → (M.getD i Le.none).xs.length ≤ 1099511627776) : StepPost w0 p pd pr M w' := ⟨D, M, h, hd, Nat.le_succ _, hx⟩

set_option maxHeartbeats 2000000 in
set_option maxRecDepth 100000 in
theorem lfeed_any (p pd pr : Nat) (a b c : Int) (s : ByteArray) (vl : Value) (D : Dk) (M : List Le) (w0 w : World) (h : LwSt w0 w p pd pr D D M) (hd : LInv D) (hx : ∀ i, i < M.length → (M.getD i Le.none).xs.length ≤ 1099511627776) (hs : s.size ≤ 140737488355328) :
    Calls Tryz.prog 12 #[.pointer (some ⟨p, 0, none⟩), opVal 1 a b c s vl] w fun e w' => e = .returned (.bool true) ∧ StepPost w0 p pd pr M w' := by
  have k0 := (h.box (opBlk 1 a b c s vl)).drew
  have b0 : (w.alloc (opBlk 1 a b c s vl)).drew.heap[w.heap.size]? = some (opBlk 1 a b c s vl) := heap_alloc_new w _
  obtain ⟨F, hdk, hstep⟩ := k0.prog
  have HF := hid (feedT pd s D _ hdk hd.inv hs)
  have HST := hid hstep
  obtain ⟨c0, c1, hpz, hqz⟩ := k0.cells
  obtain ⟨q0, q1, q2, q3, q4, q5⟩ := blk6 b0
  have HB0 := hid b0
  have HR2 := hid (fun (G : Nat → Prop) (W : World) (hr : RAt G W pr D) => rfeedT pr s D W hr hd hs)
  have HNU := hid (fun (v : Int) (W : World) => lnum_any v W)
  have HLI := hid hd
  have HX := hid hx
  have hS0 : (w.alloc (opBlk 1 a b c s vl)).drew.cell? ⟨p, 0, none⟩ = some (.pointer (some ⟨pd, 0, none⟩)) ∧ (w.alloc (opBlk 1 a b c s vl)).drew.cell? ⟨w.heap.size, 4, none⟩ = some (.string s) := ⟨c0, q4⟩
  have c0' : (w.alloc (opBlk 1 a b c s vl)).cell? ⟨p, 0, none⟩ = some (.pointer (some ⟨pd, 0, none⟩)) := c0
  have hpz' : p < (w.alloc (opBlk 1 a b c s vl)).heap.size := hpz
  clear h k0 hdk hstep hd hx b0 c0 c1 hpz q1 q2 q3 q5
  go_enter Tryz.func12, Tryz.ntmps12
  go_wp2_with fail
  go_region_held3 (fun w' => w'.cell? ⟨p, 0, none⟩ = some (.pointer (some ⟨pd, 0, none⟩)) ∧ w'.cell? ⟨w.heap.size, 4, none⟩ = some (.string s)) (first | with_reducible exact hS0 | with_reducible exact hS3 | go_keep) (first | (go_at_call 22; refine HF.out.mono ?_; rintro e w1 ⟨c1, D1, rfl, hst1, hr1⟩; obtain ⟨k1, e1⟩ := HST.out w1 D1 hst1; have b1 := e1.trans HB0.out; have hS3 : w1.cell? ⟨p, 0, none⟩ = some (.pointer (some ⟨pd, 0, none⟩)) ∧ w1.cell? ⟨w.heap.size, 4, none⟩ = some (.string s) := ⟨k1.cells.1, (blk6 b1).2.2.2.2.1⟩))
  have HK1 := hid k1.drew
  have HB1 : Hid (w1.drew.heap[w.heap.size]? = some (opBlk 1 a b c s vl)) := b1
  have HRL1 := hid hr1
  obtain ⟨d0, d1, hpz1, hqz1⟩ := k1.cells
  obtain ⟨y0, y1, y2, y3, y4, y5⟩ := blk6 b1
  have hS0' : w1.drew.cell? ⟨p, 1, none⟩ = some (.pointer (some ⟨pr, 0, none⟩)) ∧ w1.drew.cell? ⟨w.heap.size, 4, none⟩ = some (.string s) := ⟨d1, y4⟩
  clear hS0 hS3 k1 e1 b1 hr1 hst1 HF HST HB0 y1 y2 y3 y5 d0 q0 q4 c0' hpz'
  obtain ⟨G, hra, hstep2⟩ := HK1.out.doc
  have HF2 := hid (HR2.out G _ hra)
  have HST2 := hid hstep2
  clear hra hstep2 HR2
  go_wp2_with fail
  go_region_held3 (fun w' => w'.cell? ⟨p, 1, none⟩ = some (.pointer (some ⟨pr, 0, none⟩)) ∧ w'.cell? ⟨w.heap.size, 4, none⟩ = some (.string s)) (first | with_reducible exact hS0' | with_reducible exact hS4 | go_keep) (first | (go_at_call 23; refine HF2.out.mono ?_; rintro e w2 ⟨c2, D2, rfl, hst2, hr2⟩; obtain ⟨k2, e2⟩ := HST2.out w2 D2 hst2; have b2 := e2.trans HB1.out; have hS4 : w2.cell? ⟨p, 1, none⟩ = some (.pointer (some ⟨pr, 0, none⟩)) ∧ w2.cell? ⟨w.heap.size, 4, none⟩ = some (.string s) := ⟨k2.cells.2.1, (blk6 b2).2.2.2.2.1⟩))
  obtain ⟨hcc, hDD⟩ := HRL1.out.det hr2
  subst hcc
  subst hDD
  have HFIN : Hid (StepPost w0 p pd pr M w2) := StepPost.same k2.st (hr2.linv HLI.out) HX.out
  clear k2 e2 b2 hr2 hst2 hS4 hS0' HST2 HF2 HK1 HB1 HRL1
  have hcb : (c1 == c1) = true := by simp
  go_wp2_with (go_at_call 11; refine (HNU.out _ _).mono ?_; rintro e w' ⟨rfl, hw⟩; obtain rfl := hw.symm)
  go_ret
  exact ⟨rfl, HFIN.out⟩

end Go.Proofs.YtklicjbpjigfdabGreat
