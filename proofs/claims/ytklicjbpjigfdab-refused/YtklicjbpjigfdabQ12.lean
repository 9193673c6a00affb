/- DERIVED. The desk's calls that change something, whatever is handed in: the error, and the desk behind it. -/
import Derived.Test.YtklicjbpjigfdabQ11
import Derived.Test.YtklicjbpjigfdabQ1
import Derived.Test.YtklicjbpjigfdabQ0
import Derived.Test.YtklicjbpjigfdabQ4
import Derived.Test.YtklicjbpjigfdabQ2
import Derived.BigRegion
namespace Go.Proofs.Ytklicjbpjigfdab
open Go.RowKit
variable {F : Nat → Prop}

theorem hasB_at {s : Int} {n : Nat} (h : hasB s n = true) : ∃ i : Nat, s = (i : Int) ∧ i < n := by
  unfold hasB at h
  simp at h
  exact ⟨s.toNat, by omega, by omega⟩
theorem getD_set_hd {l : List Hd} {i j : Nat} {x : Hd} (hi : i < l.length) : (l.set i x).getD j Hd.none = if j = i then x else l.getD j Hd.none := by
  by_cases e : j = i
  · subst e
    rw [if_pos rfl]
    simp [List.getD, hi]
  · rw [if_neg e]
    simp only [List.getD]
    rw [List.getElem?_set_ne (Ne.symm e)]
theorem DInv.set {D : Dk} {i : Nat} {h : Hd} {t : List Bool} (hd : DInv D) (hi : i < D.sks.length) (hr : RInv h) (ht : h.taken.length ≤ 64) (hl : t.length ≤ 1024) : DInv { D with tape := t, sks := D.sks.set i h } := by
  refine ⟨hd.room1, hd.room2, by show (D.sks.set i h).length ≤ _; rw [List.length_set]; exact hd.len, hl, fun j hj => ?_, fun j hj => ?_⟩
  all_goals
    have hj' : j < D.sks.length := by have : j < (D.sks.set i h).length := hj; rw [List.length_set] at this; exact this
    show _
    simp only [getD_set_hd hi]
    by_cases e : j = i
    · rw [if_pos e]; assumption
    · rw [if_neg e]
      first
      | exact hd.sk j hj'
      | exact hd.tk j hj'

/-- Add's error and what it leaves. -/
def AddRel (A B C : Int) (D : Dk) (c : Int) (D' : Dk) : Prop :=
  (c = 4 ∧ hasB A D.sks.length = false ∧ D' = D) ∨ ∃ i : Nat, A = (i : Int) ∧ i < D.sks.length ∧
    ((c = 5 ∧ (D.sks.getD i Hd.none).sealed = true ∧ D' = D) ∨ ((D.sks.getD i Hd.none).sealed = false ∧
      ((c = 1 ∧ C < 1 ∧ D' = D) ∨ (c = 6 ∧ 1 ≤ C ∧ 268435456 - (wsum (D.sks.getD i Hd.none).sk.lv : Int) < C ∧ D' = D) ∨
        (1 ≤ C ∧ C ≤ 268435456 - (wsum (D.sks.getD i Hd.none).sk.lv : Int) ∧ ((c = 7 ∧ settle (D.sks.getD i Hd.none).sk.k D.tape 0 (addL (D.sks.getD i Hd.none) B C.toNat) = Option.none ∧ D' = D) ∨
          (c = 0 ∧ ∃ L u, settle (D.sks.getD i Hd.none).sk.k D.tape 0 (addL (D.sks.getD i Hd.none) B C.toNat) = some (L, u) ∧ D' = { D with tape := D.tape.drop u, sks := D.sks.set i { sk := { k := (D.sks.getD i Hd.none).sk.k, lv := L, lo := addLo (D.sks.getD i Hd.none) B, hi := addHi (D.sks.getD i Hd.none) B }, sealed := (D.sks.getD i Hd.none).sealed, taken := (D.sks.getD i Hd.none).taken } }))))))

theorem addTot (d : Nat) (A B C : Int) (D : Dk) (w : World) (h : DeskAt F w d D) (hd : DInv D) :
    Calls Try.prog 56 #[.pointer (some ⟨d, 0, none⟩), .int .i64 A, .int .i64 B, .int .i64 C] w fun e w' => ∃ c D', e = .returned (.int .i64 c) ∧ DeskStep F w w' d D' ∧ AddRel A B C D c D' := by
  cases hs : hasB A D.sks.length with
  | false => exact (add_no d A B C D w h hs).mono (fun e w' ⟨he, hw⟩ => ⟨4, D, he, by rw [hw]; exact DeskStep.of_below h (Below.refl _ _), .inl ⟨rfl, hs, rfl⟩⟩)
  | true =>
    obtain ⟨i, rfl, hi⟩ := hasB_at hs
    cases hse : (D.sks.getD i Hd.none).sealed with
    | true => exact (add_sealed d i B C D w h hi hse).mono (fun e w' ⟨he, hw⟩ => ⟨5, D, he, by rw [hw]; exact DeskStep.of_below h (Below.refl _ _), .inr ⟨i, rfl, hi, .inl ⟨rfl, hse, rfl⟩⟩⟩)
    | false =>
      by_cases h1 : C < 1
      · exact (add_arg d i B C D w h hi hse h1).mono (fun e w' ⟨he, hw⟩ => ⟨1, D, he, by rw [hw]; exact DeskStep.of_below h (Below.refl _ _), .inr ⟨i, rfl, hi, .inr ⟨hse, .inl ⟨rfl, h1, rfl⟩⟩⟩⟩)
      · by_cases h2 : 268435456 - (wsum (D.sks.getD i Hd.none).sk.lv : Int) < C
        · exact (add_full d i B C D w h hi (hd.sk i hi).ok hse (by omega) (by omega)).mono (fun e w' ⟨he, hb⟩ => ⟨6, D, he, DeskStep.of_below h hb, .inr ⟨i, rfl, hi, .inr ⟨hse, .inr (.inl ⟨rfl, by omega, h2, rfl⟩)⟩⟩⟩)
        · have hC : C = (C.toNat : Int) := by omega
          have hA := add_any d i C.toNat B D w h hi (hd.sk i hi).ok hse (by omega) (by omega) hd.tape
          rw [← hC] at hA
          refine hA.mono (fun e w' hans => ?_)
          rw [if_pos (by omega)] at hans
          cases hset : settle (D.sks.getD i Hd.none).sk.k D.tape 0 (addL (D.sks.getD i Hd.none) B C.toNat) with
          | none =>
            rw [hset] at hans
            exact ⟨7, D, hans.1, DeskStep.of_below h hans.2, .inr ⟨i, rfl, hi, .inr ⟨hse, .inr (.inr ⟨by omega, by omega, .inl ⟨rfl, hset, rfl⟩⟩)⟩⟩⟩
          | some q =>
            obtain ⟨L, u⟩ := q
            rw [hset] at hans
            exact ⟨0, _, hans.1, hans.2, .inr ⟨i, rfl, hi, .inr ⟨hse, .inr (.inr ⟨by omega, by omega, .inr ⟨rfl, L, u, hset, rfl⟩⟩)⟩⟩⟩

/-- Merge's error and what it leaves. -/
def MergeRel (A B : Int) (D : Dk) (c : Int) (D' : Dk) : Prop :=
  (c = 4 ∧ (hasB A D.sks.length = false ∨ hasB B D.sks.length = false) ∧ D' = D) ∨ ∃ i j : Nat, A = (i : Int) ∧ B = (j : Int) ∧ i < D.sks.length ∧ j < D.sks.length ∧
    ((c = 5 ∧ (D.sks.getD i Hd.none).sealed = true ∧ D' = D) ∨ ((D.sks.getD i Hd.none).sealed = false ∧
      ((c = 6 ∧ 268435456 < wsum (D.sks.getD i Hd.none).sk.lv + wsum (D.sks.getD j Hd.none).sk.lv ∧ D' = D) ∨
        (wsum (D.sks.getD i Hd.none).sk.lv + wsum (D.sks.getD j Hd.none).sk.lv ≤ 268435456 ∧ ((c = 7 ∧ settle (mgK (D.sks.getD i Hd.none) (D.sks.getD j Hd.none)) D.tape 0 (mgL (D.sks.getD i Hd.none) (D.sks.getD j Hd.none)) = Option.none ∧ D' = D) ∨
          (c = 0 ∧ ∃ L u, settle (mgK (D.sks.getD i Hd.none) (D.sks.getD j Hd.none)) D.tape 0 (mgL (D.sks.getD i Hd.none) (D.sks.getD j Hd.none)) = some (L, u) ∧ D' = { D with tape := D.tape.drop u, sks := D.sks.set i { sk := { k := mgK (D.sks.getD i Hd.none) (D.sks.getD j Hd.none), lv := L, lo := mgLo (D.sks.getD i Hd.none) (D.sks.getD j Hd.none), hi := mgHi (D.sks.getD i Hd.none) (D.sks.getD j Hd.none) }, sealed := (D.sks.getD i Hd.none).sealed, taken := (D.sks.getD i Hd.none).taken } }))))))

theorem mergeT (d : Nat) (A B : Int) (D : Dk) (w : World) (h : DeskAt F w d D) (hd : DInv D) :
    Calls Try.prog 57 #[.pointer (some ⟨d, 0, none⟩), .int .i64 A, .int .i64 B] w fun e w' => ∃ c D', e = .returned (.int .i64 c) ∧ DeskStep F w w' d D' ∧ MergeRel A B D c D' := by
  cases hs : hasB A D.sks.length with
  | false => exact (merge_no d A B D w h hs).mono (fun e w' ⟨he, hw⟩ => ⟨4, D, he, by rw [hw]; exact DeskStep.of_below h (Below.refl _ _), .inl ⟨rfl, .inl hs, rfl⟩⟩)
  | true =>
    cases hs2 : hasB B D.sks.length with
    | false => exact (merge_no2 d A B D w h hs hs2).mono (fun e w' ⟨he, hw⟩ => ⟨4, D, he, by rw [hw]; exact DeskStep.of_below h (Below.refl _ _), .inl ⟨rfl, .inr hs2, rfl⟩⟩)
    | true =>
      obtain ⟨i, rfl, hi⟩ := hasB_at hs
      obtain ⟨j, rfl, hj⟩ := hasB_at hs2
      cases hse : (D.sks.getD i Hd.none).sealed with
      | true => exact (merge_sealed d i j D w h hi hj hse).mono (fun e w' ⟨he, hw⟩ => ⟨5, D, he, by rw [hw]; exact DeskStep.of_below h (Below.refl _ _), .inr ⟨i, j, rfl, rfl, hi, hj, .inl ⟨rfl, hse, rfl⟩⟩⟩)
      | false =>
        refine (dmerge_any d i j D w h hi hj (hd.sk i hi).ok (hd.sk j hj).ok hse (RInv.ts (hd.sk i hi) (hd.sk j hj)) hd.tape).mono (fun e w' hans => ?_)
        by_cases hf : wsum (D.sks.getD i Hd.none).sk.lv + wsum (D.sks.getD j Hd.none).sk.lv ≤ 268435456
        · rw [if_pos hf] at hans
          cases hset : settle (mgK (D.sks.getD i Hd.none) (D.sks.getD j Hd.none)) D.tape 0 (mgL (D.sks.getD i Hd.none) (D.sks.getD j Hd.none)) with
          | none =>
            rw [hset] at hans
            exact ⟨7, D, hans.1, DeskStep.of_below h hans.2, .inr ⟨i, j, rfl, rfl, hi, hj, .inr ⟨hse, .inr ⟨hf, .inl ⟨rfl, hset, rfl⟩⟩⟩⟩⟩
          | some q =>
            obtain ⟨L, u⟩ := q
            rw [hset] at hans
            exact ⟨0, _, hans.1, hans.2, .inr ⟨i, j, rfl, rfl, hi, hj, .inr ⟨hse, .inr ⟨hf, .inr ⟨rfl, L, u, hset, rfl⟩⟩⟩⟩⟩
        · rw [if_neg hf] at hans
          exact ⟨6, D, hans.1, DeskStep.of_below h hans.2, .inr ⟨i, j, rfl, rfl, hi, hj, .inr ⟨hse, .inl ⟨rfl, by omega, rfl⟩⟩⟩⟩

/-- Seal's. -/
def SealRel (A : Int) (D : Dk) (c : Int) (D' : Dk) : Prop :=
  (c = 4 ∧ hasB A D.sks.length = false ∧ D' = D) ∨ ∃ i : Nat, A = (i : Int) ∧ i < D.sks.length ∧
    ((c = 5 ∧ (D.sks.getD i Hd.none).sealed = true ∧ D' = D) ∨ ((D.sks.getD i Hd.none).sealed = false ∧ c = 0 ∧ D' = { D with sks := D.sks.set i { D.sks.getD i Hd.none with sealed := true } }))
theorem sealT (d : Nat) (A : Int) (D : Dk) (w : World) (h : DeskAt F w d D) :
    Calls Try.prog 55 #[.pointer (some ⟨d, 0, none⟩), .int .i64 A] w fun e w' => ∃ c D', e = .returned (.int .i64 c) ∧ DeskStep F w w' d D' ∧ SealRel A D c D' := by
  cases hs : hasB A D.sks.length with
  | false => exact (dseal_no d D A w h hs).mono (fun e w' ⟨he, hw⟩ => ⟨4, D, he, by rw [hw]; exact DeskStep.of_below h (Below.refl _ _), .inl ⟨rfl, hs, rfl⟩⟩)
  | true =>
    obtain ⟨i, rfl, hi⟩ := hasB_at hs
    cases hse : (D.sks.getD i Hd.none).sealed with
    | true => exact (dseal_twice d i D w h hi hse).mono (fun e w' ⟨he, hw⟩ => ⟨5, D, he, by rw [hw]; exact DeskStep.of_below h (Below.refl _ _), .inr ⟨i, rfl, hi, .inl ⟨rfl, hse, rfl⟩⟩⟩)
    | false => exact (dseal_any d i D w h hi hse).mono (fun e w' ⟨he, hst⟩ => ⟨0, _, he, hst, .inr ⟨i, rfl, hi, .inr ⟨hse, rfl, rfl⟩⟩⟩)

/-- Take's. -/
def TakeRel (A B C : Int) (t : ByteArray) (D : Dk) (c : Int) (D' : Dk) : Prop :=
  (c = 4 ∧ hasB A D.sks.length = false ∧ D' = D) ∨ ∃ i : Nat, A = (i : Int) ∧ i < D.sks.length ∧
    ((c = 5 ∧ (D.sks.getD i Hd.none).sealed = true ∧ D' = D) ∨ ((D.sks.getD i Hd.none).sealed = false ∧
      ((c = 1 ∧ ¬ (0 ≤ B ∧ B ≤ 255 ∧ 0 ≤ C) ∧ D' = D) ∨ ((0 ≤ B ∧ B ≤ 255 ∧ 0 ≤ C) ∧
        ((c = 10 ∧ tookB (D.sks.getD i Hd.none).taken B C = true ∧ D' = D) ∨ (tookB (D.sks.getD i Hd.none).taken B C = false ∧
          ((c = 9 ∧ isText (bytesOf t) = false ∧ D' = D) ∨ (isText (bytesOf t) = true ∧
            ((c = 3 ∧ 64 ≤ (D.sks.getD i Hd.none).taken.length ∧ D' = D) ∨ ((D.sks.getD i Hd.none).taken.length < 64 ∧
              ((c = 6 ∧ 268435456 < wsum (D.sks.getD i Hd.none).sk.lv + wsum (toldS (bytesOf t)).lv ∧ D' = D) ∨ (wsum (D.sks.getD i Hd.none).sk.lv + wsum (toldS (bytesOf t)).lv ≤ 268435456 ∧
                ((c = 7 ∧ settle (mgK (D.sks.getD i Hd.none) ⟨toldS (bytesOf t), false, []⟩) D.tape 0 (mgL (D.sks.getD i Hd.none) ⟨toldS (bytesOf t), false, []⟩) = Option.none ∧ D' = D) ∨
                  (c = 0 ∧ ∃ L u, settle (mgK (D.sks.getD i Hd.none) ⟨toldS (bytesOf t), false, []⟩) D.tape 0 (mgL (D.sks.getD i Hd.none) ⟨toldS (bytesOf t), false, []⟩) = some (L, u) ∧ D' = { D with tape := D.tape.drop u, sks := D.sks.set i ((D.sks.getD i Hd.none).reported ⟨toldS (bytesOf t), false, []⟩ L B C) }))))))))))))))
theorem takeT (d : Nat) (A B C : Int) (t : ByteArray) (D : Dk) (w : World) (h : DeskAt F w d D) (hd : DInv D) (ht : t.size ≤ 140737488355328) :
    Calls Try.prog 78 #[.pointer (some ⟨d, 0, none⟩), .int .i64 A, .int .i64 B, .int .i64 C, .string t] w fun e w' => ∃ c D', e = .returned (.int .i64 c) ∧ DeskStep F w w' d D' ∧ TakeRel A B C t D c D' := by
  cases hs : hasB A D.sks.length with
  | false => exact (dtake_no d D A B C t w h hs).mono (fun e w' ⟨he, hw⟩ => ⟨4, D, he, by rw [hw]; exact DeskStep.of_below h (Below.refl _ _), .inl ⟨rfl, hs, rfl⟩⟩)
  | true =>
    obtain ⟨i, rfl, hi⟩ := hasB_at hs
    have hl : (D.sks.getD i Hd.none).taken.length ≤ 1099511627776 := by have := hd.tk i hi; omega
    cases hse : (D.sks.getD i Hd.none).sealed with
    | true => exact (dtake_sealed d i D B C t w h hi hse).mono (fun e w' ⟨he, hw⟩ => ⟨5, D, he, by rw [hw]; exact DeskStep.of_below h (Below.refl _ _), .inr ⟨i, rfl, hi, .inl ⟨rfl, hse, rfl⟩⟩⟩)
    | false =>
      by_cases hr : 0 ≤ B ∧ B ≤ 255 ∧ 0 ≤ C
      · cases htk : tookB (D.sks.getD i Hd.none).taken B C with
        | true => exact (dtake_twice d i D B C t w h hi hse hr.1 hr.2.1 hr.2.2 hl htk).mono (fun e w' ⟨he, hb⟩ => ⟨10, D, he, DeskStep.of_below h hb, .inr ⟨i, rfl, hi, .inr ⟨hse, .inr ⟨hr, .inl ⟨rfl, htk, rfl⟩⟩⟩⟩⟩)
        | false =>
          cases hit : isText (bytesOf t) with
          | false => exact (dtake_text d i D B C t w h hi hse hr.1 hr.2.1 hr.2.2 hl htk ht hit).mono (fun e w' ⟨he, hb⟩ => ⟨9, D, he, DeskStep.of_below h hb, .inr ⟨i, rfl, hi, .inr ⟨hse, .inr ⟨hr, .inr ⟨htk, .inl ⟨rfl, hit, rfl⟩⟩⟩⟩⟩⟩)
          | true =>
            by_cases hrm : 64 ≤ (D.sks.getD i Hd.none).taken.length
            · exact (dtake_room d i D B C t w h hi hse hr.1 hr.2.1 hr.2.2 hl htk ht hit hrm).mono (fun e w' ⟨he, hb⟩ => ⟨3, D, he, DeskStep.of_below h hb, .inr ⟨i, rfl, hi, .inr ⟨hse, .inr ⟨hr, .inr ⟨htk, .inr ⟨hit, .inl ⟨rfl, hrm, rfl⟩⟩⟩⟩⟩⟩⟩)
            · have hrt := rinv_told (b := false) (l := []) hit
              refine (dtake_in d i D B C t w h hi hse hr.1 hr.2.1 hr.2.2 hl htk ht hit (by omega) (hd.sk i hi).ok hrt.ok (RInv.ts (hd.sk i hi) hrt) hd.tape).mono (fun e w' hans => ?_)
              by_cases hf : wsum (D.sks.getD i Hd.none).sk.lv + wsum (toldS (bytesOf t)).lv ≤ 268435456
              · rw [if_pos hf] at hans
                cases hset : settle (mgK (D.sks.getD i Hd.none) ⟨toldS (bytesOf t), false, []⟩) D.tape 0 (mgL (D.sks.getD i Hd.none) ⟨toldS (bytesOf t), false, []⟩) with
                | none =>
                  rw [hset] at hans
                  exact ⟨7, D, hans.1, DeskStep.of_below h hans.2, .inr ⟨i, rfl, hi, .inr ⟨hse, .inr ⟨hr, .inr ⟨htk, .inr ⟨hit, .inr ⟨by omega, .inr ⟨hf, .inl ⟨rfl, hset, rfl⟩⟩⟩⟩⟩⟩⟩⟩⟩
                | some q =>
                  obtain ⟨L, u⟩ := q
                  rw [hset] at hans
                  exact ⟨0, _, hans.1, hans.2, .inr ⟨i, rfl, hi, .inr ⟨hse, .inr ⟨hr, .inr ⟨htk, .inr ⟨hit, .inr ⟨by omega, .inr ⟨hf, .inr ⟨rfl, L, u, hset, rfl⟩⟩⟩⟩⟩⟩⟩⟩⟩
              · rw [if_neg hf] at hans
                exact ⟨6, D, hans.1, DeskStep.of_below h hans.2, .inr ⟨i, rfl, hi, .inr ⟨hse, .inr ⟨hr, .inr ⟨htk, .inr ⟨hit, .inr ⟨by omega, .inl ⟨rfl, by omega, rfl⟩⟩⟩⟩⟩⟩⟩⟩
      · exact (dtake_arg d i D B C t w h hi hse hr).mono (fun e w' ⟨he, hw⟩ => ⟨1, D, he, by rw [hw]; exact DeskStep.of_below h (Below.refl _ _), .inr ⟨i, rfl, hi, .inr ⟨hse, .inl ⟨rfl, hr, rfl⟩⟩⟩⟩)

/-- Open's, Decode's, Feed's. -/
def OpenRel (A : Int) (D : Dk) (v c : Int) (D' : Dk) : Prop :=
  (v = 0 ∧ c = 1 ∧ ¬ (2 ≤ A ∧ A ≤ 64) ∧ D' = D) ∨ ((2 ≤ A ∧ A ≤ 64) ∧ ((v = 0 ∧ c = 3 ∧ D.room ≤ D.sks.length ∧ D' = D) ∨ (D.sks.length < D.room ∧ v = (D.sks.length : Int) ∧ c = 0 ∧ D' = { D with sks := D.sks ++ [Hd.begun A.toNat] })))
theorem openT (d : Nat) (A : Int) (D : Dk) (w : World) (h : DeskAt F w d D) (hd : DInv D) :
    Calls Try.prog 20 #[.pointer (some ⟨d, 0, none⟩), .int .i64 A] w fun e w' => ∃ v c D', e = .returned (.tuple #[.int .i64 v, .int .i64 c]) ∧ DeskStep F w w' d D' ∧ OpenRel A D v c D' := by
  by_cases hk : 2 ≤ A ∧ A ≤ 64
  · have hA : A = (A.toNat : Int) := by omega
    by_cases hr : D.room ≤ D.sks.length
    · have h1 := open_full d A.toNat D w h (by omega) (by omega) hr
      rw [← hA] at h1
      exact h1.mono (fun e w' ⟨he, hb⟩ => ⟨0, 3, D, he, DeskStep.of_below h hb, .inr ⟨hk, .inl ⟨rfl, rfl, hr, rfl⟩⟩⟩)
    · have h1 := open_any d A.toNat D w h (by omega) (by omega) (by omega) hd.room2
      rw [← hA] at h1
      exact h1.mono (fun e w' ⟨he, hst⟩ => ⟨_, 0, _, he, hst, .inr ⟨hk, .inr ⟨by omega, rfl, rfl, rfl⟩⟩⟩)
  · exact (open_arg d A w hk).mono (fun e w' ⟨he, hw⟩ => ⟨0, 1, D, he, by rw [hw]; exact DeskStep.of_below h (Below.refl _ _), .inl ⟨rfl, rfl, hk, rfl⟩⟩)
def DecodeRel (t : ByteArray) (D : Dk) (v c : Int) (D' : Dk) : Prop :=
  (v = 0 ∧ c = 9 ∧ isText (bytesOf t) = false ∧ D' = D) ∨ (isText (bytesOf t) = true ∧ ((v = 0 ∧ c = 3 ∧ D.room ≤ D.sks.length ∧ D' = D) ∨ (D.sks.length < D.room ∧ v = (D.sks.length : Int) ∧ c = 0 ∧ D' = { D with sks := D.sks ++ [⟨toldS (bytesOf t), false, []⟩] })))
theorem decodeT (d : Nat) (t : ByteArray) (D : Dk) (w : World) (h : DeskAt F w d D) (hd : DInv D) (ht : t.size ≤ 140737488355328) :
    Calls Try.prog 11 #[.pointer (some ⟨d, 0, none⟩), .string t] w fun e w' => ∃ v c D', e = .returned (.tuple #[.int .i64 v, .int .i64 c]) ∧ DeskStep F w w' d D' ∧ DecodeRel t D v c D' := by
  cases hit : isText (bytesOf t) with
  | false => exact (decode_no d t w ht hit).mono (fun e w' ⟨he, hb⟩ => ⟨0, 9, D, he, DeskStep.of_below h hb, .inl ⟨rfl, rfl, hit, rfl⟩⟩)
  | true =>
    by_cases hr : D.room ≤ D.sks.length
    · exact (decode_full d D t w h ht hit hr).mono (fun e w' ⟨he, hb⟩ => ⟨0, 3, D, he, DeskStep.of_below h hb, .inr ⟨hit, .inl ⟨rfl, rfl, hr, rfl⟩⟩⟩)
    · exact (decode_ok d D t w h ht hit (by omega) hd.room2).mono (fun e w' ⟨he, hst⟩ => ⟨_, 0, _, he, hst, .inr ⟨hit, .inr ⟨by omega, rfl, rfl, rfl⟩⟩⟩)
def FeedRel (t : ByteArray) (D : Dk) (c : Int) (D' : Dk) : Prop :=
  (c = 2 ∧ areCoins t.data.toList = false ∧ D' = D) ∨ (areCoins t.data.toList = true ∧ ((c = 3 ∧ 1024 < D.tape.length + t.size ∧ D' = D) ∨ (c = 0 ∧ D.tape.length + t.size ≤ 1024 ∧ D' = { D with tape := D.tape ++ coinsOf t.data.toList })))
theorem feedT (d : Nat) (t : ByteArray) (D : Dk) (w : World) (h : DeskAt F w d D) (hd : DInv D) (ht : t.size ≤ 140737488355328) :
    Calls Try.prog 86 #[.pointer (some ⟨d, 0, none⟩), .string t] w fun e w' => ∃ c D', e = .returned (.int .i64 c) ∧ DeskStep F w w' d D' ∧ FeedRel t D c D' := by
  cases hc : areCoins t.data.toList with
  | false => exact (feed_coin d t w ht hc).mono (fun e w' ⟨he, hw⟩ => ⟨2, D, he, by rw [hw]; exact DeskStep.of_below h (Below.refl _ _), .inl ⟨rfl, hc, rfl⟩⟩)
  | true =>
    by_cases hr : D.tape.length + t.size ≤ 1024
    · exact (deskFeed d D t w h hc hr).mono (fun e w' ⟨he, hst⟩ => ⟨0, _, he, hst, .inr ⟨hc, .inr ⟨rfl, hr, rfl⟩⟩⟩)
    · exact (feed_room d D t w h ht hc hd.tape (by omega)).mono (fun e w' ⟨he, hw⟩ => ⟨3, D, he, by rw [hw]; exact DeskStep.of_below h (Below.refl _ _), .inr ⟨hc, .inl ⟨rfl, by omega, rfl⟩⟩⟩)

end Go.Proofs.Ytklicjbpjigfdab

/- DERIVED. What came into a sketch, as the statement's own text keeps it: plain mathematics. -/
namespace Go.Proofs.Ytklicjbpjigfdab

/-- What came in: each number once, with what it weighs. -/
structure Sd where
  xs : List Int
  ws : List Nat
  n : Nat
  k : Nat
  ones : Bool
  gone : Bool

/-- The place of x among the numbers from i on. -/
def findAt (x : Int) : Nat → List Int → Option Nat
  | _, [] => Option.none
  | i, y :: ys => if y = x then some i else findAt x (i + 1) ys
def putXs (s : Sd) (x : Int) : List Int := match findAt x 0 s.xs with
  | some _ => s.xs
  | Option.none => s.xs ++ [x]
def putWs (s : Sd) (x : Int) (w : Nat) : List Nat := match findAt x 0 s.xs with
  | some i => s.ws.set i (s.ws.getD i 0 + w)
  | Option.none => s.ws ++ [w]
def Sd.put (s : Sd) (x : Int) (w : Nat) : Sd := { s with xs := putXs s x, ws := putWs s x w, n := s.n + w }

theorem findAt_drop {x : Int} {l : List Int} {i : Nat} (h : i < l.length) : findAt x i (l.drop i) = if l.getD i 0 = x then some i else findAt x (i + 1) (l.drop (i + 1)) := by
  rw [List.drop_eq_getElem_cons h, findAt]; simp [List.getD, h]
theorem findAt_none {x : Int} : ∀ {l : List Int} {i : Nat}, findAt x i l = Option.none ↔ x ∉ l := by
  intro l
  induction l with
  | nil => intro i; simp [findAt]
  | cons y l ih =>
    intro i
    rw [findAt]
    split
    · rename_i e; simp [e]
    · rename_i e
      rw [ih]
      simp only [List.mem_cons, not_or]
      exact ⟨fun h => ⟨fun e' => e e'.symm, h⟩, fun h => h.2⟩
theorem findAt_some {x : Int} : ∀ {l : List Int} {i r : Nat}, findAt x i l = some r → i ≤ r ∧ r < i + l.length ∧ l.getD (r - i) 0 = x := by
  intro l
  induction l with
  | nil => intro i r h; simp [findAt] at h
  | cons y l ih =>
    intro i r h
    rw [findAt] at h
    split at h
    · cases h
      refine ⟨Nat.le_refl _, by simp, ?_⟩
      simpa using ‹_›
    · obtain ⟨h1, h2, h3⟩ := ih h
      refine ⟨by omega, by simp; omega, ?_⟩
      rw [show r - i = (r - (i + 1)) + 1 by omega]
      simpa using h3

/-- What of it weighs, where p holds. -/
def wFilter (p : Int → Bool) : List Int → List Nat → Nat
  | x :: xs, w :: ws => (if p x then w else 0) + wFilter p xs ws
  | _, _ => 0
def wAll : List Nat → Nat
  | [] => 0
  | w :: ws => w + wAll ws

theorem wFilter_le (p : Int → Bool) : ∀ (xs : List Int) (ws : List Nat), wFilter p xs ws ≤ wAll ws := by
  intro xs
  induction xs with
  | nil => intro ws; cases ws <;> simp [wFilter]
  | cons x xs ih =>
    intro ws
    cases ws with
    | nil => simp [wFilter]
    | cons w ws => have := ih ws; simp only [wFilter, wAll]; split <;> omega
theorem wFilter_drop (p : Int → Bool) {xs : List Int} {ws : List Nat} {i : Nat} (hx : i < xs.length) (hw : i < ws.length) : wFilter p (xs.drop i) (ws.drop i) = (if p (xs.getD i 0) then ws.getD i 0 else 0) + wFilter p (xs.drop (i + 1)) (ws.drop (i + 1)) := by
  rw [List.drop_eq_getElem_cons hx, List.drop_eq_getElem_cons hw, wFilter]; simp [List.getD, hx, hw]
theorem wFilter_end (p : Int → Bool) {xs : List Int} {ws : List Nat} {i : Nat} (hx : xs.length ≤ i) : wFilter p (xs.drop i) (ws.drop i) = 0 := by
  rw [List.drop_eq_nil_of_le hx, wFilter.eq_def]
theorem wFilter_none (p : Int → Bool) : ∀ (xs : List Int) (ws : List Nat), (∀ x ∈ xs, p x = false) → wFilter p xs ws = 0 := by
  intro xs
  induction xs with
  | nil => intro ws _; cases ws <;> simp [wFilter]
  | cons x xs ih =>
    intro ws h
    cases ws with
    | nil => simp [wFilter]
    | cons w ws => rw [wFilter, ih ws (fun y hy => h y (by simp [hy])), h x (by simp)]; simp
theorem wFilter_all (p : Int → Bool) : ∀ (xs : List Int) (ws : List Nat), xs.length = ws.length → (∀ x ∈ xs, p x = true) → wFilter p xs ws = wAll ws := by
  intro xs
  induction xs with
  | nil => intro ws h _; cases ws with | nil => rfl | cons => simp at h
  | cons x xs ih =>
    intro ws hl h
    cases ws with
    | nil => simp at hl
    | cons w ws => rw [wFilter, ih ws (by simpa using hl) (fun y hy => h y (by simp [hy])), h x (by simp), wAll]; simp
theorem wAll_at {ws : List Nat} {i : Nat} : ws.getD i 0 ≤ wAll ws := by
  induction ws generalizing i with
  | nil => simp
  | cons w ws ih =>
    cases i with
    | zero => simp [wAll]
    | succ i => have := ih (i := i); simp only [wAll, List.getD_cons_succ]; omega
theorem wAll_set {ws : List Nat} {i v : Nat} (h : i < ws.length) : wAll (ws.set i (ws.getD i 0 + v)) = wAll ws + v := by
  induction ws generalizing i with
  | nil => simp at h
  | cons w ws ih =>
    cases i with
    | zero => simp [wAll]; omega
    | succ i => have := ih (i := i) (by simpa using h); simp only [wAll, List.set_cons_succ, List.getD_cons_succ] at this ⊢; omega
theorem wAll_snoc (ws : List Nat) (v : Nat) : wAll (ws ++ [v]) = wAll ws + v := by
  induction ws with
  | nil => simp [wAll]
  | cons w ws ih => simp only [List.cons_append, wAll, ih]; omega
theorem wAll_len {ws : List Nat} (h : ∀ w ∈ ws, 1 ≤ w) : ws.length ≤ wAll ws := by
  induction ws with
  | nil => simp [wAll]
  | cons w ws ih => have := ih (fun v hv => h v (by simp [hv])); have := h w (by simp); simp only [wAll, List.length_cons]; omega
def nats (ws : List Nat) : List Int := ws.map fun (n : Nat) => (n : Int)
theorem nats_getD (ws : List Nat) (i : Nat) : (nats ws).getD i 0 = ((ws.getD i 0 : Nat) : Int) := by
  simp only [nats, List.getD, List.getElem?_map]
  cases ws[i]? <;> rfl

end Go.Proofs.Ytklicjbpjigfdab

/- DERIVED. The walks over what came in: in, below, upTo. -/
namespace Go.Proofs.Ytklicjbpjigfdab
open Go.RowKit


theorem blk6 {w : World} {r : Nat} {a b c d x y : Value} {e : TypeId} (h : w.heap[r]? = some (.cells #[a, b, c, d, x, y] e (0, 0))) :
    w.cell? ⟨r, 0, none⟩ = some a ∧ w.cell? ⟨r, 1, none⟩ = some b ∧ w.cell? ⟨r, 2, none⟩ = some c ∧ w.cell? ⟨r, 3, none⟩ = some d ∧ w.cell? ⟨r, 4, none⟩ = some x ∧ w.cell? ⟨r, 5, none⟩ = some y ∧ (∀ o, w.frozen? ⟨r, o, none⟩ = false) := by
  refine ⟨?_, ?_, ?_, ?_, ?_, ?_, fun o => ?_⟩ <;> simp [World.cell?, World.frozen?, h]

/-- What came in lies behind block p, all of it in blocks of G. -/
structure SideAt (G : Nat → Prop) (w : World) (p : Nat) (s : Sd) (vx vw : Value) : Prop where
  blk : w.heap[p]? = some (.cells #[vx, vw, .int .i64 (s.n : Int), .int .i64 (s.k : Int), .bool s.ones, .bool s.gone] 93 (0, 0))
  gp : G p
  ix : Ints w vx s.xs
  iw : Ints w vw (nats s.ws)
  gx : ∀ b, vx.ownBlock = some b → G b
  gw : ∀ b, vw.ownBlock = some b → G b
  ne : ∀ b, vx.ownBlock = some b → vw.ownBlock ≠ some b
  len : s.xs.length = s.ws.length
theorem SideAt.keep {G : Nat → Prop} {w w' : World} {p : Nat} {s : Sd} {vx vw : Value} (h : SideAt G w p s vx vw) (hb : ∀ b, G b → b < w.heap.size → w'.heap[b]? = w.heap[b]?) : SideAt G w' p s vx vw :=
  ⟨(hb p h.gp (lt_of_blk' h.blk)).trans h.blk, h.gp, h.ix.block (fun b e => hb b (h.gx b e) (ownsRow_lt h.ix e)), h.iw.block (fun b e => hb b (h.gw b e) (ownsRow_lt h.iw e)), h.gx, h.gw, h.ne, h.len⟩
theorem SideAt.below {G : Nat → Prop} {w w' : World} {p : Nat} {s : Sd} {vx vw : Value} (h : SideAt G w p s vx vw) (hb : Below w.heap.size w w') : SideAt G w' p s vx vw := h.keep (fun b _ hl => hb.block b hl)

variable {G : Nat → Prop}

set_option maxHeartbeats 400000 in
theorem in_any (p : Nat) (s : Sd) (vx vw : Value) (x : Int) (w : World) (h : SideAt G w p s vx vw) (hl : s.xs.length ≤ 1099511627776) :
    Calls Try.prog 75 #[.pointer (some ⟨p, 0, none⟩), .int .i64 x] w fun e w' => e = .returned (.bool (decide (x ∈ s.xs))) ∧ w' = w := by
  obtain ⟨c0, c1, c2, c3, c4, c5, cz⟩ := blk6 h.blk
  obtain ⟨ao, cc, rfl, hcl, hcm, hno, hso⟩ := h.ix.form
  generalize hxs : s.xs = xs at *
  generalize hn : xs.length = n at *
  have HN := hid hn
  have HNO := hid hno
  have HSO := hid hso
  clear h hno hso hn
  go_enter Try.func75, Try.ntmps75
  go_wp2
  go_loop [5] (fun i => ∃ k : Nat, k ≤ n ∧ i = .int .i64 k ∧ Hid (findAt x 0 xs = findAt x k (xs.drop k))) (fun i => n - (intOf i).toNat)
  case atStart => exact ⟨0, Nat.zero_le _, rfl, by simp [Hid]⟩
  case round =>
    obtain ⟨k, hk, rfl, Hf⟩ := hrel
    by_cases hlt : k < n
    · obtain ⟨gc, rfl⟩ : ∃ g, ao = some ⟨g, 0, none⟩ := by
        cases ao with
        | none => have := (HNO.out rfl).1; rw [this] at HN; have := HN.out; simp at this; omega
        | some a => obtain ⟨g, rfl, _⟩ := HSO.out a rfl; exact ⟨g, rfl⟩
      obtain ⟨gc', e1, hgc, hcc⟩ := HSO.out _ rfl
      cases e1
      have hcell := hcc k hlt
      have HFD := hid (findAt_drop (x := x) (l := xs) (i := k) (by rw [HN.out]; exact hlt))
      generalize xs.getD k 0 = y at *
      clear hcc
      by_cases hy : y = x
      · have hy' : (y == x) = true := by simp [hy]
        have HY := hid hy
        have HM : Hid (x ∈ xs) := by
          unfold Hid
          by_cases hx : x ∈ xs
          · exact hx
          · have := (findAt_none (i := 0)).2 hx; rw [Hf.out, HFD.out, if_pos hy] at this; cases this
        clear hy
        go_wp2
        go_ret
        exact ⟨by simp [HM.out], rfl⟩
      · have hy' : (y == x) = false := by simp [hy]
        go_wp2
        go_round
        case rel =>
          refine ⟨k + 1, by omega, by go_num, ?_⟩
          have := Hf.out; rw [HFD.out, if_neg hy] at this; exact this
        case measure => simp [intOf]; omega
    · have HM : Hid (x ∉ xs) := by
        have := Hf.out
        rw [List.drop_eq_nil_of_le (by rw [HN.out]; omega), findAt] at this
        exact findAt_none.1 this
      go_wp2
      go_ret
      exact ⟨by simp [HM.out], rfl⟩

set_option maxHeartbeats 400000 in
theorem below_any (p : Nat) (s : Sd) (vx vw : Value) (q : Int) (w : World) (h : SideAt G w p s vx vw) (hl : s.xs.length ≤ 1099511627776) (hw : wAll s.ws ≤ 1099511627776) :
    Calls Try.prog 76 #[.pointer (some ⟨p, 0, none⟩), .int .i64 q] w fun e w' => e = .returned (.int .i64 (wFilter (fun x => decide (x < q)) s.xs s.ws : Int)) ∧ w' = w := by
  obtain ⟨c0, c1, c2, c3, c4, c5, cz⟩ := blk6 h.blk
  have hlen := h.len
  have hwl := h.iw.form
  obtain ⟨ao, cc, rfl, hcl, hcm, hno, hso⟩ := h.ix.form
  obtain ⟨bo, cb, rfl, hcl2, hcm2, hno2, hso2⟩ := hwl
  have hnl : (nats s.ws).length = s.xs.length := by simp [nats, hlen]
  generalize hxs : s.xs = xs at *
  generalize hws : s.ws = ws at *
  have hle := wFilter_le (fun x => decide (x < q)) xs ws
  rw [hnl] at hso2 hcl2 c1
  generalize hn : xs.length = n at *
  have HN := hid hn
  have HLEN := hid hlen
  have HNO := hid hno
  have HSO := hid hso
  have HNO2 := hid hno2
  have HSO2 := hid hso2
  have HNL := hid hnl
  clear h hno hso hno2 hso2 hn hlen hnl
  go_enter Try.func76, Try.ntmps76
  go_wp2
  go_loop [5, 6] (fun t i => ∃ k c : Nat, k ≤ n ∧ i = .int .i64 k ∧ t = .int .i64 c ∧ Hid (c + wFilter (fun x => decide (x < q)) (xs.drop k) (ws.drop k) = wFilter (fun x => decide (x < q)) xs ws)) (fun _ i => n - (intOf i).toNat)
  case atStart => exact ⟨0, 0, Nat.zero_le _, rfl, rfl, by simp [Hid]⟩
  case round =>
    obtain ⟨k, c, hk, rfl, rfl, Hf⟩ := hrel
    by_cases hlt : k < n
    · obtain ⟨gc, rfl⟩ : ∃ g, ao = some ⟨g, 0, none⟩ := by
        cases ao with
        | none => have := (HNO.out rfl).1; rw [this] at HN; have := HN.out; simp at this; omega
        | some a => obtain ⟨g, rfl, _⟩ := HSO.out a rfl; exact ⟨g, rfl⟩
      obtain ⟨gd, rfl⟩ : ∃ g, bo = some ⟨g, 0, none⟩ := by
        cases bo with
        | none => have := (HNO2.out rfl).1; have h2 := HNL.out; rw [this] at h2; simp at h2; omega
        | some a => obtain ⟨g, rfl, _⟩ := HSO2.out a rfl; exact ⟨g, rfl⟩
      obtain ⟨gc', e1, hgc, hcc⟩ := HSO.out _ rfl
      cases e1
      obtain ⟨gd', e2, hgd, hcd⟩ := HSO2.out _ rfl
      cases e2
      have hcell := hcc k hlt
      have hcell2 := hcd k hlt
      rw [nats_getD] at hcell2
      have HFD := hid (wFilter_drop (fun x => decide (x < q)) (xs := xs) (ws := ws) (i := k) (by rw [HN.out]; exact hlt) (by rw [← HLEN.out]; exact hlt))
      have hwk := wAll_at (ws := ws) (i := k)
      generalize xs.getD k 0 = y at *
      generalize ws.getD k 0 = v at *
      clear hcc hcd
      by_cases hy : y < q
      · have hcv : c + v ≤ 1099511627776 := by have := Hf.out; have := HFD.out; simp only [hy, decide_true, if_true] at this; omega
        go_wp2
        go_round
        case rel =>
          refine ⟨k + 1, c + v, by omega, by go_num, by go_num, ?_⟩
          have := Hf.out; have h2 := HFD.out; simp only [hy, decide_true, if_true] at h2; unfold Hid; omega
        case measure => simp [intOf]; omega
      · go_wp2
        go_round
        case rel =>
          refine ⟨k + 1, c, by omega, by go_num, rfl, ?_⟩
          have := Hf.out; have h2 := HFD.out; simp only [hy, decide_false, Bool.false_eq_true, if_false] at h2; unfold Hid; omega
        case measure => simp [intOf]; omega
    · have HM : Hid (c = wFilter (fun x => decide (x < q)) xs ws) := by
        have := Hf.out
        rw [wFilter_end _ (by rw [HN.out]; omega)] at this
        exact this
      go_wp2
      go_ret
      exact ⟨ret_int (by rw [HM.out]), rfl⟩

set_option maxHeartbeats 400000 in
theorem upTo_any (p : Nat) (s : Sd) (vx vw : Value) (q : Int) (w : World) (h : SideAt G w p s vx vw) (hl : s.xs.length ≤ 1099511627776) (hw : wAll s.ws ≤ 1099511627776) :
    Calls Try.prog 49 #[.pointer (some ⟨p, 0, none⟩), .int .i64 q] w fun e w' => e = .returned (.int .i64 (wFilter (fun x => decide (x ≤ q)) s.xs s.ws : Int)) ∧ w' = w := by
  obtain ⟨c0, c1, c2, c3, c4, c5, cz⟩ := blk6 h.blk
  have hlen := h.len
  have hwl := h.iw.form
  obtain ⟨ao, cc, rfl, hcl, hcm, hno, hso⟩ := h.ix.form
  obtain ⟨bo, cb, rfl, hcl2, hcm2, hno2, hso2⟩ := hwl
  have hnl : (nats s.ws).length = s.xs.length := by simp [nats, hlen]
  generalize hxs : s.xs = xs at *
  generalize hws : s.ws = ws at *
  have hle := wFilter_le (fun x => decide (x ≤ q)) xs ws
  rw [hnl] at hso2 hcl2 c1
  generalize hn : xs.length = n at *
  have HN := hid hn
  have HLEN := hid hlen
  have HNO := hid hno
  have HSO := hid hso
  have HNO2 := hid hno2
  have HSO2 := hid hso2
  have HNL := hid hnl
  clear h hno hso hno2 hso2 hn hlen hnl
  go_enter Try.func49, Try.ntmps49
  go_wp2
  go_loop [5, 6] (fun t i => ∃ k c : Nat, k ≤ n ∧ i = .int .i64 k ∧ t = .int .i64 c ∧ Hid (c + wFilter (fun x => decide (x ≤ q)) (xs.drop k) (ws.drop k) = wFilter (fun x => decide (x ≤ q)) xs ws)) (fun _ i => n - (intOf i).toNat)
  case atStart => exact ⟨0, 0, Nat.zero_le _, rfl, rfl, by simp [Hid]⟩
  case round =>
    obtain ⟨k, c, hk, rfl, rfl, Hf⟩ := hrel
    by_cases hlt : k < n
    · obtain ⟨gc, rfl⟩ : ∃ g, ao = some ⟨g, 0, none⟩ := by
        cases ao with
        | none => have := (HNO.out rfl).1; rw [this] at HN; have := HN.out; simp at this; omega
        | some a => obtain ⟨g, rfl, _⟩ := HSO.out a rfl; exact ⟨g, rfl⟩
      obtain ⟨gd, rfl⟩ : ∃ g, bo = some ⟨g, 0, none⟩ := by
        cases bo with
        | none => have := (HNO2.out rfl).1; have h2 := HNL.out; rw [this] at h2; simp at h2; omega
        | some a => obtain ⟨g, rfl, _⟩ := HSO2.out a rfl; exact ⟨g, rfl⟩
      obtain ⟨gc', e1, hgc, hcc⟩ := HSO.out _ rfl
      cases e1
      obtain ⟨gd', e2, hgd, hcd⟩ := HSO2.out _ rfl
      cases e2
      have hcell := hcc k hlt
      have hcell2 := hcd k hlt
      rw [nats_getD] at hcell2
      have HFD := hid (wFilter_drop (fun x => decide (x ≤ q)) (xs := xs) (ws := ws) (i := k) (by rw [HN.out]; exact hlt) (by rw [← HLEN.out]; exact hlt))
      have hwk := wAll_at (ws := ws) (i := k)
      generalize xs.getD k 0 = y at *
      generalize ws.getD k 0 = v at *
      clear hcc hcd
      by_cases hy : y ≤ q
      · have hcv : c + v ≤ 1099511627776 := by have := Hf.out; have := HFD.out; simp only [hy, decide_true, if_true] at this; omega
        go_wp2
        go_round
        case rel =>
          refine ⟨k + 1, c + v, by omega, by go_num, by go_num, ?_⟩
          have := Hf.out; have h2 := HFD.out; simp only [hy, decide_true, if_true] at h2; unfold Hid; omega
        case measure => simp [intOf]; omega
      · go_wp2
        go_round
        case rel =>
          refine ⟨k + 1, c, by omega, by go_num, rfl, ?_⟩
          have := Hf.out; have h2 := HFD.out; simp only [hy, decide_false, Bool.false_eq_true, if_false] at h2; unfold Hid; omega
        case measure => simp [intOf]; omega
    · have HM : Hid (c = wFilter (fun x => decide (x ≤ q)) xs ws) := by
        have := Hf.out
        rw [wFilter_end _ (by rw [HN.out]; omega)] at this
        exact this
      go_wp2
      go_ret
      exact ⟨ret_int (by rw [HM.out]), rfl⟩

end Go.Proofs.Ytklicjbpjigfdab

/- DERIVED. The walk of put: a number comes into what came in. -/
namespace Go.Proofs.Ytklicjbpjigfdab
open Go.RowKit
variable {G : Nat → Prop}

abbrev sdBlk (vx vw : Value) (n : Int) (k : Nat) (ones gone : Bool) : Obj := .cells #[vx, vw, .int .i64 n, .int .i64 (k : Int), .bool ones, .bool gone] 93 (0, 0)

/-- What put leaves. -/
def PutPost (G : Nat → Prop) (p : Nat) (s : Sd) (x : Int) (wt : Nat) (w w' : World) : Prop :=
  ∃ vx' vw', SideAt (fun b => (G b ∨ w.heap.size ≤ b) ∧ b < w'.heap.size) w' p (s.put x wt) vx' vw' ∧ Fr G w w'

theorem SideAt.drew {w : World} {p : Nat} {s : Sd} {vx vw : Value} (h : SideAt G w p s vx vw) : SideAt G w.drew p s vx vw := ⟨h.blk, h.gp, h.ix, h.iw, h.gx, h.gw, h.ne, h.len⟩
theorem PutPost.drew {p : Nat} {s : Sd} {x : Int} {wt : Nat} {w w' : World} (h : PutPost G p s x wt w w') : PutPost G p s x wt w w'.drew := by
  obtain ⟨vx', vw', h1, h2⟩ := h
  exact ⟨vx', vw', h1.drew, ⟨h2.os, h2.tape, h2.output, h2.size, h2.block⟩⟩

/-- A row that another row's growth does not touch. -/
theorem row_far {w w1 : World} {b : Nat} {e : TypeId} {size : Nat} {v u : Value} {n : Nat} {xs : List Value} {o : Obj} (h : w.ownsRow b e size v n xs) (hg : (w.alloc o).grownBy w1 u.ownBlock) (hne : ∀ c, v.ownBlock = some c → u.ownBlock ≠ some c) : w1.ownsRow b e size v n xs :=
  ownsRow_block h (fun c hc => (hg.block c (by have := ownsRow_lt h hc; simp; omega) (fun e => hne c hc e.symm)).trans (Below.heap_alloc _ _ _ (ownsRow_lt h hc)))
theorem blk_far {w w1 : World} {p : Nat} {u : Value} {o o' : Obj} (h : w.heap[p]? = some o') (hg : (w.alloc o).grownBy w1 u.ownBlock) (hne : u.ownBlock ≠ some p) : w1.heap[p]? = some o' :=
  (hg.block p (by have := lt_of_blk' h; simp; omega) (fun e => hne e.symm)).trans ((Below.heap_alloc _ _ _ (lt_of_blk' h)).trans h)

theorem row_set {w : World} {b : Nat} {e : TypeId} {size : Nat} {v : Value} {n : Nat} {xs : List Value} {p : Nat} (h : w.ownsRow b e size v n xs) (hne : ∀ c, v.ownBlock = some c → c ≠ p) : ∀ V, (w.setCell ⟨p, 0, none⟩ V).ownsRow b e size v n xs :=
  fun _ => ownsRow_block h (fun c hc => Below.heap_setCell _ _ _ _ (hne c hc))
theorem sd_set0 {w : World} {p : Nat} {vx vw : Value} {n : Int} {k : Nat} {ones gone : Bool} (h : w.heap[p]? = some (sdBlk vx vw n k ones gone)) (V : Value) : (w.setCell ⟨p, 0, none⟩ V).heap[p]? = some (sdBlk V vw n k ones gone) := by
  have := blk_set (i := 0) V h
  simpa using this
theorem sd_set1 {w : World} {p : Nat} {vx vw : Value} {n : Int} {k : Nat} {ones gone : Bool} (h : w.heap[p]? = some (sdBlk vx vw n k ones gone)) (V : Value) : (w.setCell ⟨p, 1, none⟩ V).heap[p]? = some (sdBlk vx V n k ones gone) := by
  have := blk_set (i := 1) V h
  simpa using this

/-- The number was there: its weight is stored. -/
theorem put_found {p i g c : Nat} {s : Sd} {x : Int} {wt : Nat} {vx : Value} {w wA : World} (h : SideAt G w p s vx (.slice (some ⟨g, 0, none⟩) s.ws.length c)) (hA : wA = w.setCell ⟨p, 2, none⟩ (.int .i64 ((s.n : Int) + (wt : Int)))) (hf : findAt x 0 s.xs = some i) (hlt : ∀ b, G b → b < w.heap.size) :
    PutPost G p s x wt w (wA.setCell ⟨g, i, none⟩ (.int .i64 (((s.ws.getD i 0 : Nat) : Int) + (wt : Int)))) := by
  subst hA
  obtain ⟨_, hi, _⟩ := findAt_some hf
  have hiw : i < s.ws.length := by rw [← h.len]; simpa using hi
  have hpz := lt_of_blk' h.blk
  have hgw : G g := h.gw g rfl
  obtain ⟨cw, hcw⟩ := h.iw.kind (b := g) rfl
  have hpg : g ≠ p := fun e => by subst e; rw [h.blk] at hcw; cases hcw
  have hkA : IntsKept w (w.setCell ⟨p, 2, none⟩ (.int .i64 ((s.n : Int) + (wt : Int)))) := IntsKept.set h.blk (by decide)
  have hixA := h.ix.kept hkA
  have hiwA := h.iw.kept hkA
  have hG : ∀ b, G b → (G b ∨ w.heap.size ≤ b) ∧ b < ((w.setCell ⟨p, 2, none⟩ (.int .i64 ((s.n : Int) + (wt : Int)))).setCell ⟨g, i, none⟩ (.int .i64 (((s.ws.getD i 0 : Nat) : Int) + (wt : Int)))).heap.size := fun b hb => ⟨.inl hb, by rw [setCell_size, setCell_size]; exact hlt b hb⟩
  refine ⟨vx, .slice (some ⟨g, 0, none⟩) s.ws.length c, ⟨?_, hG p h.gp, ?_, ?_, fun b e => hG b (h.gx b e), fun b e => hG b (h.gw b e), h.ne, ?_⟩, ((Fr.refl G w).set (fun _ => h.gp) _).set (fun _ => hgw) _⟩
  · rw [Below.heap_setCell _ _ _ _ (Ne.symm hpg)]
    have := blk_set (i := 2) (.int .i64 ((s.n : Int) + (wt : Int))) h.blk
    simpa [Sd.put] using this
  · have e : (s.put x wt).xs = s.xs := by simp [Sd.put, putXs, hf]
    rw [e]
    refine hixA.block (fun b e => Below.heap_setCell _ _ _ _ (fun e' => ?_))
    simp at e'; subst e'
    exact h.ne _ e rfl
  · have e : (s.put x wt).ws = s.ws.set i (s.ws.getD i 0 + wt) := by simp [Sd.put, putWs, hf]
    rw [e]
    have hl : (nats s.ws).length = s.ws.length := by simp [nats]
    have h2 : World.ownsRow _ _ _ _ _ _ _ := hiwA
    rw [hl] at h2
    have h3 := (h2.stored i (.int .i64 (((s.ws.getD i 0 : Nat) : Int) + (wt : Int)))).1
    have e3 : (ints (nats s.ws)).set i (.int .i64 (((s.ws.getD i 0 : Nat) : Int) + (wt : Int))) = ints (nats (s.ws.set i (s.ws.getD i 0 + wt))) := by
      simp [ints, nats, List.map_set]
    rw [e3] at h3
    exact Ints.of h3
  · simp [Sd.put, putXs, putWs, hf, h.len]

/-- The number is new: both lists have grown. -/
theorem put_new {p g2 cap2 g3 cap3 : Nat} {s : Sd} {x : Int} {wt : Nat} {vx vw : Value} {w wA w1 w2 : World} {o1 o2 : Obj} (h : SideAt G w p s vx vw) (hA : w.setCell ⟨p, 2, none⟩ (.int .i64 ((s.n : Int) + (wt : Int))) = wA) (hf : findAt x 0 s.xs = Option.none)
    (ho1 : w1.ownsRow 0 3 1 (.slice (some ⟨g2, 0, none⟩) (s.xs.length + 1) cap2) (s.xs.length + 1) (ints s.xs ++ [.int .i64 x])) (hg1 : (wA.alloc o1).grownBy w1 vx.ownBlock) (ha1 : vx.ownBlock = some g2 ∨ g2 = wA.heap.size + 1)
    (ho2 : w2.ownsRow 0 3 1 (.slice (some ⟨g3, 0, none⟩) (s.xs.length + 1) cap3) (s.xs.length + 1) (ints (nats s.ws) ++ [.int .i64 (wt : Int)])) (hg2 : ((w1.setCell ⟨p, 0, none⟩ (.slice (some ⟨g2, 0, none⟩) (s.xs.length + 1) cap2)).alloc o2).grownBy w2 vw.ownBlock) (ha2 : vw.ownBlock = some g3 ∨ g3 = w1.heap.size + 1)
    (hq2 : w2.heap[p]? = some (sdBlk (.slice (some ⟨g2, 0, none⟩) (s.xs.length + 1) cap2) vw ((s.n : Int) + (wt : Int)) s.k s.ones s.gone)) :
    PutPost G p s x wt w (w2.setCell ⟨p, 1, none⟩ (.slice (some ⟨g3, 0, none⟩) (s.xs.length + 1) cap3)) := by
  have hzA : wA.heap.size = w.heap.size := by rw [← hA, setCell_size]
  have hz1 : w.heap.size + 1 ≤ w1.heap.size := by have := hg1.size; simp at this; omega
  have hz2 : w1.heap.size + 1 ≤ w2.heap.size := by have := hg2.size; simp at this; omega
  have hpz := lt_of_blk' h.blk
  have hk2 : ∃ c, w1.heap[g2]? = some (.cells c 3 (0, 0)) := by
    rcases ho1.2 with ⟨e, _⟩ | ⟨g', c', cur, e, _, hh, _⟩
    · cases e
    · cases e; exact ⟨cur, hh⟩
  have hk3 : ∃ c, w2.heap[g3]? = some (.cells c 3 (0, 0)) := by
    rcases ho2.2 with ⟨e, _⟩ | ⟨g', c', cur, e, _, hh, _⟩
    · cases e
    · cases e; exact ⟨cur, hh⟩
  have hvxp : ∀ b, vx.ownBlock = some b → b ≠ p := fun b hb e => by
    obtain ⟨c, hc⟩ := h.ix.kind hb
    subst e; rw [h.blk] at hc; cases hc
  have hvwp : ∀ b, vw.ownBlock = some b → b ≠ p := fun b hb e => by
    obtain ⟨c, hc⟩ := h.iw.kind hb
    subst e; rw [h.blk] at hc; cases hc
  have hvxz : ∀ b, vx.ownBlock = some b → b < w.heap.size := fun b hb => ownsRow_lt h.ix hb
  have hvwz : ∀ b, vw.ownBlock = some b → b < w.heap.size := fun b hb => ownsRow_lt h.iw hb
  have hg2z : g2 < w1.heap.size := ownsRow_lt ho1 rfl
  have hg2p : g2 ≠ p := by
    rcases ha1 with e | e
    · exact hvxp _ e
    · omega
  have hg3p : g3 ≠ p := by
    rcases ha2 with e | e
    · exact hvwp _ e
    · omega
  have hg2w : vw.ownBlock ≠ some g2 := by
    rcases ha1 with e | e
    · exact h.ne _ e
    · intro e2; have := hvwz _ e2; omega
  have hg23 : g2 ≠ g3 := by
    rcases ha2 with e | e
    · intro e2; subst e2; exact hg2w e
    · omega
  have hGn : ∀ b, G b ∨ w.heap.size ≤ b → b < w2.heap.size → (G b ∨ w.heap.size ≤ b) ∧ b < (w2.setCell ⟨p, 1, none⟩ (.slice (some ⟨g3, 0, none⟩) (s.xs.length + 1) cap3)).heap.size := fun b hb hl => ⟨hb, by rw [setCell_size]; exact hl⟩
  have hpost : (s.put x wt).xs = s.xs ++ [x] ∧ (s.put x wt).ws = s.ws ++ [wt] := by simp [Sd.put, putXs, putWs, hf]
  refine ⟨.slice (some ⟨g2, 0, none⟩) (s.xs.length + 1) cap2, .slice (some ⟨g3, 0, none⟩) (s.xs.length + 1) cap3, ⟨?_, hGn p (.inl h.gp) (by omega), ?_, ?_, ?_, ?_, ?_, ?_⟩, ?_⟩
  · have := sd_set1 hq2 (.slice (some ⟨g3, 0, none⟩) (s.xs.length + 1) cap3)
    rw [this]
    simp [Sd.put]
  · rw [hpost.1]
    rw [show ints s.xs ++ [.int .i64 x] = ints (s.xs ++ [x]) by simp [ints]] at ho1
    refine (Ints.of ho1).block (fun b hb => ?_)
    simp [Value.ownBlock] at hb
    subst hb
    rw [Below.heap_setCell _ _ _ _ hg2p, hg2.block _ (by simp; omega) (fun e => hg2w e.symm), Below.heap_alloc _ _ _ (by rw [setCell_size]; exact hg2z), Below.heap_setCell _ _ _ _ hg2p]
  · rw [hpost.2]
    rw [show ints (nats s.ws) ++ [.int .i64 (wt : Int)] = ints (nats (s.ws ++ [wt])) by simp [ints, nats]] at ho2
    refine (Ints.of ho2).block (fun b hb => ?_)
    simp [Value.ownBlock] at hb
    subst hb
    exact Below.heap_setCell _ _ _ _ hg3p
  · intro b hb
    simp [Value.ownBlock] at hb
    subst hb
    refine hGn _ ?_ (by omega)
    rcases ha1 with e | e
    · exact .inl (h.gx _ e)
    · exact .inr (by omega)
  · intro b hb
    simp [Value.ownBlock] at hb
    subst hb
    refine hGn _ ?_ (ownsRow_lt ho2 rfl)
    rcases ha2 with e | e
    · exact .inl (h.gw _ e)
    · exact .inr (by omega)
  · intro b hb e
    simp [Value.ownBlock] at hb e
    omega
  · rw [hpost.1, hpost.2]; simp [h.len]
  · have f0 : Fr G w wA := by rw [← hA]; exact (Fr.refl G w).set (fun _ => h.gp) _
    have f1 : Fr G w w1 := f0.trans (T := fun b => vx.ownBlock = some b) ⟨hg1.os, hg1.tape, hg1.output, by have := hg1.size; simp at this; omega, fun b hb hn => (hg1.block b (by simp; omega) (fun e => hn e.symm)).trans (Below.heap_alloc _ _ _ hb)⟩ (fun b _ e => h.gx b e)
    have f2 := f1.set (a := ⟨p, 0, none⟩) (fun _ => h.gp) (.slice (some ⟨g2, 0, none⟩) (s.xs.length + 1) cap2)
    have f3 : Fr G w w2 := f2.trans (T := fun b => vw.ownBlock = some b) ⟨hg2.os, hg2.tape, hg2.output, by have := hg2.size; simp at this ⊢; omega, fun b hb hn => (hg2.block b (by simp at hb ⊢; omega) (fun e => hn e.symm)).trans (Below.heap_alloc _ _ _ hb)⟩ (fun b _ e => h.gw b e)
    exact f3.set (fun _ => h.gp) _

set_option maxHeartbeats 1000000 in
set_option maxRecDepth 100000 in
theorem put_any (p : Nat) (s : Sd) (vx vw : Value) (x : Int) (wt : Nat) (w : World) (h : SideAt G w p s vx vw) (hl : s.xs.length ≤ 1099511627776) (hn : s.n + wt ≤ 1099511627776) (hws : ∀ i, s.ws.getD i 0 ≤ 1099511627776) (hlt : ∀ b, G b → b < w.heap.size) :
    Calls Try.prog 70 #[.pointer (some ⟨p, 0, none⟩), .int .i64 x, .int .i64 (wt : Int)] w fun e w' => e = .returned (.tuple #[]) ∧ PutPost G p s x wt w w' := by
  have HH := hid h
  have HLT := hid hlt
  have HWS := hid hws
  obtain ⟨c0, c1, c2, c3, c4, c5, cz⟩ := blk6 h.blk
  have hkA : IntsKept w (w.setCell ⟨p, 2, none⟩ (.int .i64 ((s.n : Int) + (wt : Int)))) := IntsKept.set h.blk (by decide)
  obtain ⟨ao, cc, ex, hcl, hcm, hno, hso⟩ := (h.ix.kept hkA).form
  obtain ⟨bo, cb, ew, hcl2, hcm2, hno2, hso2⟩ := (h.iw.kept hkA).form
  have hblkA := blk_set (i := 2) (.int .i64 ((s.n : Int) + (wt : Int))) h.blk
  have hlen := h.len
  have hnl : (nats s.ws).length = s.xs.length := by simp [nats, hlen]
  have hKA := hid hkA
  have HBA : Hid ((w.setCell ⟨p, 2, none⟩ (.int .i64 ((s.n : Int) + (wt : Int)))).heap[p]? = some (sdBlk vx vw ((s.n : Int) + (wt : Int)) s.k s.ones s.gone)) := by simpa [Hid] using hblkA
  have hpz := lt_of_blk' h.blk
  generalize hwA : w.setCell ⟨p, 2, none⟩ (.int .i64 ((s.n : Int) + (wt : Int))) = wA at *
  have HWA := hid hwA
  have HZA : Hid (wA.heap.size = w.heap.size) := by rw [← hwA, setCell_size]; rfl
  obtain ⟨d0, d1, d2, d3, d4, d5, dz⟩ := blk6 HBA.out
  have c0' := c0
  have c1' := c1
  rw [ex] at c0' d0
  rw [ew, hnl] at c1' d1
  rw [hnl] at hcl2 hso2
  have HEX := hid ex
  have HEW := hid ew
  generalize hxs : s.xs = xs at *
  generalize hnn : xs.length = n at *
  have HN := hid hnn
  have HXS := hid hxs
  have HLEN := hid hlen
  have HNO := hid hno
  have HSO := hid hso
  have HNO2 := hid hno2
  have HSO2 := hid hso2
  have HNL := hid hnl
  clear h hno hso hno2 hso2 hnn hlen hnl hblkA hkA ex ew hws hlt hxs c0 c1
  go_enter Try.func70, Try.ntmps70
  go_wp2_with fail
  clear hwA c0' c1' c2 c3 c4 c5 cz
  go_loop [6] (fun i => ∃ k : Nat, k ≤ n ∧ i = .int .i64 k ∧ Hid (findAt x 0 xs = findAt x k (xs.drop k))) (fun i => n - (intOf i).toNat)
  case atStart => exact ⟨0, Nat.zero_le _, rfl, by simp [Hid]⟩
  case round =>
    obtain ⟨k, hk, rfl, Hf⟩ := hrel
    by_cases hkn : k < n
    · obtain ⟨gc, rfl⟩ : ∃ g, ao = some ⟨g, 0, none⟩ := by
        cases ao with
        | none => have := (HNO.out rfl).1; rw [this] at HN; have := HN.out; simp at this; omega
        | some a => obtain ⟨g, rfl, _⟩ := HSO.out a rfl; exact ⟨g, rfl⟩
      obtain ⟨gd, rfl⟩ : ∃ g, bo = some ⟨g, 0, none⟩ := by
        cases bo with
        | none => have := (HNO2.out rfl).1; have h2 := HNL.out; rw [this] at h2; simp at h2; omega
        | some a => obtain ⟨g, rfl, _⟩ := HSO2.out a rfl; exact ⟨g, rfl⟩
      obtain ⟨gc', e1, hgc, hcc⟩ := HSO.out _ rfl
      cases e1
      obtain ⟨gd', e2, hgd, hcd⟩ := HSO2.out _ rfl
      cases e2
      have hcell := hcc k hkn
      have hcell2 := hcd k hkn
      rw [nats_getD] at hcell2
      have HFD := hid (findAt_drop (x := x) (l := xs) (i := k) (by rw [HN.out]; exact hkn))
      have hwk := HWS.out k
      have hfz : wA.frozen? ⟨gd, k, none⟩ = false := by
        obtain ⟨cur, hcur⟩ := (HH.out.iw.kept hKA.out).kind (b := gd) (by rw [HEW.out]; rfl)
        simp [World.frozen?, hcur]
      have hs1 : (0 : Int) ≤ (k : Int) := by omega
      have hs2 : (k : Int) < (n : Int) := by omega
      have HWK : Hid (s.ws.getD k 0 = s.ws.getD k 0) := rfl
      generalize hy0 : xs.getD k 0 = y at *
      generalize hv0 : s.ws.getD k 0 = v at *
      have HV0 := hid hv0
      clear hcc hcd hy0 hv0 HWK
      by_cases hy : y = x
      · have hy' : (y == x) = true := by simp [hy]
        have HF : Hid (findAt x 0 s.xs = some k) := by rw [HXS.out]; have := Hf.out; rw [HFD.out, if_pos hy] at this; exact this
        clear hy
        go_wp2_with fail
        go_region
        go_wp2_with fail
        refine bodyPost_ret (v := .tuple #[]) (by simp [results, Try.results70]) rfl ⟨rfl, ?_⟩
        have h9 := HH.out
        rw [HEW.out, HNL.out, HLEN.out] at h9
        have := put_found (x := x) (wt := wt) h9 HWA.out.symm HF.out HLT.out
        rw [HV0.out] at this
        exact this.drew
      · have hy' : (y == x) = false := by simp [hy]
        go_wp2_with fail
        go_round
        case rel =>
          refine ⟨k + 1, by omega, by go_num, ?_⟩
          have := Hf.out; rw [HFD.out, if_neg hy] at this; exact this
        case measure => simp [intOf]; omega
    · have HF : Hid (findAt x 0 s.xs = Option.none) := by
        rw [HXS.out]
        have := Hf.out
        rw [List.drop_eq_nil_of_le (by rw [HN.out]; omega), findAt] at this
        exact this
      have HKX : Hid (∀ b, vx.ownBlock = some b → b ≠ p) := fun b hb e => by
        obtain ⟨c, hc⟩ := HH.out.ix.kind hb
        subst e; rw [HH.out.blk] at hc; cases hc
      have HKW : Hid (∀ b, vw.ownBlock = some b → b ≠ p) := fun b hb e => by
        obtain ⟨c, hc⟩ := HH.out.iw.kind hb
        subst e; rw [HH.out.blk] at hc; cases hc
      have HRX : Hid (wA.ownsRow 0 3 1 (.slice ao n cc) n (ints xs)) := by
        have := HH.out.ix.kept hKA.out
        rw [HEX.out, HXS.out] at this
        have h2 : World.ownsRow _ _ _ _ _ _ _ := this
        rw [HN.out] at h2
        exact h2
      have HRW : Hid (wA.ownsRow 0 3 1 (.slice bo n cb) n (ints (nats s.ws))) := by
        have := HH.out.iw.kept hKA.out
        rw [HEW.out] at this
        have h2 : World.ownsRow _ _ _ _ _ _ _ := this
        rw [HNL.out] at h2
        exact h2
      have HVX : Hid (vx = .slice ao n cc) := HEX.out
      have HVW : Hid (vw = .slice bo n cb) := by rw [HEW.out, HNL.out]; rfl
      obtain ⟨i0, hi0, hz0, hz1, hz2⟩ := info_parts Try.infoInt
      go_wp2_with (first | (at_builtin; refine wpList_append_lies _ rfl (.tmp 53) (.tmp 55) 91 rfl 0 3 i0 (.int .i64 0) 1 8 Try.underlying91 hi0 hz0 hz1 hz2 rfl (by decide) (.slice ao n cc) n (ints xs) rfl (HRX.out.alloc _) ⟨wA.heap.size, 0, none⟩ 1 1 [.int .i64 x] rfl rfl (one_new _ _ _) (one_cell _ _) (by decide) (by unfold maxLen; omega) (by omega) (Nat.zero_le _) (wA.heap.size + 1) (by simp) ?_; intro g2 cap2 w1 hown1 hgrow1 hat1 hlt1; have hq1 := blk_far HBA.out hgrow1 (by rw [← HVX.out]; exact fun e => HKX.out p e rfl); obtain ⟨q0, q1, q2, q3, q4, q5, qz⟩ := blk6 hq1; rw [HVW.out] at q1; have HQ1 := hid hq1; have HO1 := hid hown1; have HG1 := hid hgrow1; have HA1 := hid hat1; have HR1 := hid (row_far HRW.out hgrow1 (fun c hc e => HH.out.ne c (by rw [HVX.out]; exact e) (by rw [HVW.out]; exact hc))); have HR1' := hid (row_set HR1.out (p := p) (fun c hc => HKW.out c (by rw [HVW.out]; exact hc))); have HQ1' := hid (fun V => sd_set0 HQ1.out V); clear hq1 hown1 hgrow1 hat1) | (at_builtin; refine wpList_append_lies _ rfl (.tmp 63) (.tmp 65) 91 rfl 0 3 i0 (.int .i64 0) 1 8 Try.underlying91 hi0 hz0 hz1 hz2 rfl (by decide) (.slice bo n cb) n (ints (nats s.ws)) rfl ((HR1'.out _).alloc _) ⟨w1.heap.size, 0, none⟩ 1 1 [.int .i64 (wt : Int)] rfl rfl (one_new' (setCell_size _ _ _) _ _) (one_cell _ _) (by decide) (by unfold maxLen; omega) (by omega) (Nat.zero_le _) (w1.heap.size + 1) (by rw [World.size_alloc, setCell_size]) ?_; intro g3 cap3 w2 hown2 hgrow2 hat2 hlt2; have hq2 := blk_far (HQ1'.out _) hgrow2 (by rw [← HVW.out]; exact fun e => HKW.out p e rfl); obtain ⟨r0, r1, r2, r3, r4, r5, rz⟩ := blk6 hq2; have HQ2 := hid hq2; have HO2 := hid hown2; have HG2 := hid hgrow2; have HA2 := hid hat2; clear hq2 hown2 hgrow2 hat2))
      go_end0
      refine ⟨rfl, ?_⟩
      have hxl : s.xs.length = n := by rw [HXS.out]; exact HN.out
      have ho1 := HO1.out
      have hg1 := HG1.out
      have ha1 := HA1.out
      have ho2 := HO2.out
      have hg2 := HG2.out
      have ha2 := HA2.out
      have hq2 := HQ2.out
      rw [← HVX.out] at hg1 ha1
      rw [← HVW.out] at hg2 ha2
      rw [← HXS.out] at ho1
      rw [← hxl] at ho1 ho2 hg2 hq2 ⊢
      exact put_new HH.out HWA.out HF.out ho1 hg1 ha1 ho2 hg2 ha2 hq2

end Go.Proofs.Ytklicjbpjigfdab
