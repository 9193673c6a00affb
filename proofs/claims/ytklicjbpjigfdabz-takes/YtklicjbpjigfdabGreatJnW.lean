/- DERIVED. The walk of joined: it returns a fresh list, jn of both, and changes nothing that was there. -/
import Derived.Test.YtklicjbpjigfdabGreatQ0
namespace Go.Proofs.YtklicjbpjigfdabGreat
open Go.RowKit

theorem getD_at {A : List Int} {i : Nat} (h : i < A.length) : A.getD i 0 = A[i] := by simp [List.getD, h]
theorem rel_a {A B xs J : List Int} {i t : Nat} {x y : Int} (hi : i < A.length) (ht : t < B.length) (HX : Hid (B.getD t 0 = x)) (HY : Hid (A.getD i 0 = y)) (h : Hid (xs ++ jn (A.drop i) (B.drop t) = J)) (hle : y ≤ x) : (xs ++ [y]) ++ jn (A.drop (i + 1)) (B.drop t) = J := by
  have hx := HX.out
  have hy := HY.out
  rw [getD_at ht] at hx
  rw [getD_at hi] at hy
  subst hx hy
  exact step_a hi ht h hle
theorem rel_b {A B xs J : List Int} {i t : Nat} {x : Int} (ht : t < B.length) (HX : Hid (B.getD t 0 = x)) (h : Hid (xs ++ jn (A.drop i) (B.drop t) = J)) (hgt : ∀ _ : i < A.length, ¬ A.getD i 0 ≤ x) : (xs ++ [x]) ++ jn (A.drop i) (B.drop (t + 1)) = J := by
  have hx := HX.out
  rw [getD_at ht] at hx
  subst hx
  exact step_b ht h (fun hi => by have := hgt hi; rwa [getD_at hi] at this)

set_option maxHeartbeats 1600000 in
set_option maxRecDepth 100000 in
theorem joined_any (va vb : Value) (A B : List Int) (w : World) (ha : Ints w va A) (hb : Ints w vb B) (hA : A.length ≤ 1099511627776) (hB : B.length ≤ 1099511627776) :
    Calls Tryz.prog 84 #[va, vb] w fun e w' => ∃ c, e = .returned (.slice (some ⟨w.heap.size, 0, none⟩) (jn A B).length c) ∧ w'.ownsRow w.heap.size 3 1 (.slice (some ⟨w.heap.size, 0, none⟩) (jn A B).length c) (jn A B).length (ints (jn A B)) ∧ Below w.heap.size w w' := by
  obtain ⟨i0, hi, hz0, hz1, hz2⟩ := info_parts Tryz.infoInt
  obtain ⟨ao, ca, rfl, hca, hcm, hano, haso⟩ := ha.form
  obtain ⟨bo, cb, rfl, hcb, hcbm, hbno, hbso⟩ := hb.form
  clear ha hb
  generalize hla : A.length = la at *
  generalize hlb : B.length = lb at *
  have HJ : Hid ((jn A B).length = la + lb) := by have := jn_length B A; rw [hla, hlb] at this; exact this
  have HLA : Hid (A.length = la) := hla
  have HLB : Hid (B.length = lb) := hlb
  clear hla hlb
  go_enter Tryz.func84, Tryz.ntmps84
  go_wp2_with (at_make; refine wpList_make_own _ rfl _ _ 28 rfl w.heap.size 3 i0 (.int .i64 0) 1 Tryz.underlying28 hi hz0 hz1 _ _ _ (la + lb) rfl rfl (by omega) ?b2 ?b3 (Nat.le_refl _) ?_)
  case b2 => first | omega | (rw [hz2]; omega)
  case b3 => unfold maxLen; omega
  intro w0 hown0 hgrow0
  go_wp2
  go_loopw [5, 6, 17] (fun out si st wr => ∃ (i t : Nat) (xs : List Int), i ≤ la ∧ t ≤ lb ∧ si = .int .i64 i ∧ st = .int .i64 t ∧ out = .slice (some ⟨w.heap.size, 0, none⟩) (i + t) (la + lb) ∧
      wr.ownsRow w.heap.size 3 1 (.slice (some ⟨w.heap.size, 0, none⟩) (i + t) (la + lb)) (i + t) (ints xs) ∧ Hid (xs ++ jn (A.drop i) (B.drop t) = jn A B) ∧ Below w.heap.size w wr)
    (fun _ _ st _ => lb - (intOf st).toNat)
  case atStart => exact ⟨0, 0, [], Nat.zero_le _, Nat.zero_le _, rfl, rfl, rfl, hown0, by simp [Hid], (Below.refl _ _).grown hgrow0 (Nat.le_refl _) (fun k h => by cases h)⟩
  case round =>
    obtain ⟨i, t, xs, hil, htl, rfl, rfl, rfl, hown, hx, hnx⟩ := hrel
    clear hown0 hgrow0
    by_cases hlt : t < lb
    · obtain ⟨gb, rfl⟩ : ∃ g, bo = some ⟨g, 0, none⟩ := by
        cases bo with
        | none => have := hbno rfl; rw [this.1] at HLB; have := HLB.out; simp at this; omega
        | some a => obtain ⟨g, rfl, _⟩ := hbso a rfl; exact ⟨g, rfl⟩
      obtain ⟨gb', e1, hgb, hbc⟩ := hbso _ rfl
      cases e1
      have hc1 : wr.cell? ⟨gb, t, none⟩ = some (.int .i64 (B.getD t 0)) := (hnx.cell (by exact hgb)).trans (hbc t hlt)
      generalize hX : B.getD t 0 = x at *
      have HX : Hid (B.getD t 0 = x) := hX
      clear hX hbc
      go_wp2
      go_loopw [5, 6] (fun out si wr => ∃ (i : Nat) (xs : List Int), i ≤ la ∧ si = .int .i64 i ∧ out = .slice (some ⟨w.heap.size, 0, none⟩) (i + t) (la + lb) ∧
          wr.ownsRow w.heap.size 3 1 (.slice (some ⟨w.heap.size, 0, none⟩) (i + t) (la + lb)) (i + t) (ints xs) ∧ Hid (xs ++ jn (A.drop i) (B.drop t) = jn A B) ∧ Below w.heap.size w wr)
        (fun _ si _ => la - (intOf si).toNat)
      case atStart => exact ⟨i, xs, hil, rfl, rfl, by assumption, hx, by assumption⟩
      case round =>
        clear hil hx hc1 hown hnx
        obtain ⟨i, xs, hil, rfl, rfl, hown, hx, hnx⟩ := hrel
        by_cases hli : i < la
        · obtain ⟨ga, rfl⟩ : ∃ g, ao = some ⟨g, 0, none⟩ := by
            cases ao with
            | none => have := hano rfl; rw [this.1] at HLA; have := HLA.out; simp at this; omega
            | some a => obtain ⟨g, rfl, _⟩ := haso a rfl; exact ⟨g, rfl⟩
          obtain ⟨ga', e1, hga, hac⟩ := haso _ rfl
          cases e1
          have hc1 : wr.cell? ⟨ga, i, none⟩ = some (.int .i64 (A.getD i 0)) := (hnx.cell (by exact hga)).trans (hac i hli)
          generalize hY : A.getD i 0 = y at *
          have HY : Hid (A.getD i 0 = y) := hY
          clear hY hac
          by_cases hle : y ≤ x
          · go_wp2_with (at_builtin; refine wpList_append_fits _ rfl (.tmp 33) (.tmp 38) 28 rfl w.heap.size 3 i0 1 Tryz.underlying28 hi hz1 w.heap.size (i + t) (la + lb) _ rfl (hown.alloc _) ⟨wr.heap.size, 0, none⟩ 1 1 [.int .i64 y] rfl rfl (one_new _ _ _) (one_cell _ _) (by omega) ?_; intro w1 hown1 hgrow1)
            go_roundw
            case rel =>
              rw [ints_snoc, show i + t + 1 = i + 1 + t by omega] at hown1
              refine ⟨i + 1, xs ++ [y], by omega, by go_num, by rw [show i + t + 1 = i + 1 + t by omega], hown1, ?_, (hnx.alloc hnx.size _).grown hgrow1 (by simp; have := hnx.size; omega) (fun k hk => by cases hk; exact Nat.le_refl _)⟩
              exact rel_a (by rw [HLA.out]; exact hli) (by rw [HLB.out]; exact hlt) HX HY hx hle
            case measure => simp [intOf]; omega
          · go_wp2_with (at_builtin; refine wpList_append_fits _ rfl (.tmp 42) (.tmp 44) 28 rfl w.heap.size 3 i0 1 Tryz.underlying28 hi hz1 w.heap.size (i + t) (la + lb) _ rfl (hown.alloc _) ⟨wr.heap.size, 0, none⟩ 1 1 [.int .i64 x] rfl rfl (one_new _ _ _) (one_cell _ _) (by omega) ?_; intro w1 hown1 hgrow1)
            go_roundw
            case rel =>
              rw [ints_snoc, show i + t + 1 = i + (t + 1) by omega] at hown1
              refine ⟨i, t + 1, xs ++ [x], by omega, by omega, rfl, by go_num, by rw [show i + t + 1 = i + (t + 1) by omega], hown1, ?_, (hnx.alloc hnx.size _).grown hgrow1 (by simp; have := hnx.size; omega) (fun k hk => by cases hk; exact Nat.le_refl _)⟩
              exact rel_b (by rw [HLB.out]; exact hlt) HX hx (fun _ => by rw [HY.out]; exact hle)
            case measure => simp [intOf]; omega
        · go_wp2_with (at_builtin; refine wpList_append_fits _ rfl (.tmp 42) (.tmp 44) 28 rfl w.heap.size 3 i0 1 Tryz.underlying28 hi hz1 w.heap.size (i + t) (la + lb) _ rfl (hown.alloc _) ⟨wr.heap.size, 0, none⟩ 1 1 [.int .i64 x] rfl rfl (one_new _ _ _) (one_cell _ _) (by omega) ?_; intro w1 hown1 hgrow1)
          go_roundw
          case rel =>
            rw [ints_snoc, show i + t + 1 = i + (t + 1) by omega] at hown1
            refine ⟨i, t + 1, xs ++ [x], by omega, by omega, rfl, by go_num, by rw [show i + t + 1 = i + (t + 1) by omega], hown1, ?_, (hnx.alloc hnx.size _).grown hgrow1 (by simp; have := hnx.size; omega) (fun k hk => by cases hk; exact Nat.le_refl _)⟩
            exact rel_b (by rw [HLB.out]; exact hlt) HX hx (fun h => by rw [HLA.out] at h; omega)
          case measure => simp [intOf]; omega
    · have ht : t = lb := by omega
      subst ht
      have HE : Hid (xs ++ A.drop i = jn A B) := step_end (by rw [HLB.out]; exact Nat.le_refl _) hx
      cases ao with
      | none =>
        obtain ⟨e1, e2⟩ := hano rfl
        subst e1 e2
        have hA0 : la = 0 := HLA.out.symm
        subst hA0
        have hi0 : i = 0 := by omega
        subst hi0
        go_wp2
        go_ret
        have HE' : xs = jn [] B := by simpa using HE.out
        have := hown
        rw [HE'] at this
        have hl := this.1
        rw [ints_length] at hl
        have hl' : (jn [] B).length = t := by omega
        refine ⟨0 + t, ?_, ?_, hnx⟩
        · rw [hl']; simp
        · rw [hl']; simpa using this
      | some a =>
        obtain ⟨ga, rfl, hga, hac⟩ := haso a rfl
        have hac' : ∀ t, t < la → wr.cell? ⟨ga, 0 + t, none⟩ = some (.int .i64 (A.getD t 0)) := fun t h => by rw [Nat.zero_add]; exact (hnx.cell (by exact hga)).trans (hac t h)
        go_wp2_with (at_builtin; refine wpList_append_fits_any _ rfl (.tmp 47) (.tmp 50) 28 rfl w.heap.size 3 i0 1 Tryz.underlying28 hi hz1 w.heap.size (i + t) (la + t) _ rfl hown _ (la - i) _ (ints (A.drop i)) rfl (by rw [ints_length, List.length_drop, HLA.out]; omega) (by intro h; first | cases h | (split at h <;> cases h)) (cells_from HLA hca hac' (by intro h; first | rfl | simp [h])) (ints_one _) (by omega) ?_; intro w1 hown1 hgrow1)
        all_goals
          go_ret
          have HE' := HE.out
          rw [← ints_append, HE'] at hown1
          have hl := hown1.1
          rw [ints_length] at hl
          have hl' : i + t + (la - i) = (jn A B).length := by omega
          rw [hl'] at hown1
          refine ⟨la + t, ?_, hown1, hnx.grown hgrow1 hnx.size (fun k hk => by cases hk; exact Nat.le_refl _)⟩
          rw [← hl']; simp

end Go.Proofs.YtklicjbpjigfdabGreat
