/- DERIVED. The walk of the desk's Quantile. -/
import Derived.Test.YtklicjbpjigfdaaQuantW
import Derived.Test.YtklicjbpjigfdaaMt
namespace Go.Proofs.Ytklicjbpjigfdaa
open Go.RowKit
variable {F : Nat → Prop}

/-- What the desk's Quantile answers. -/
def DQPost (L : List Lvl) (lo hi r : Int) (e : Ending) : Prop :=
  if wsum L = 0 then e = .returned (.tuple #[.int .i64 0, .int .i64 8]) else if r < 1 ∨ (wsum L : Int) < r then e = .returned (.tuple #[.int .i64 0, .int .i64 1]) else ∃ x, e = .returned (.tuple #[.int .i64 x, .int .i64 0]) ∧ QPost L lo hi r.toNat x

set_option maxHeartbeats 1000000 in
set_option maxRecDepth 100000 in
theorem deskQuant (d : Nat) (D : Dk) (i : Nat) (r : Int) (w : World) (h : DeskAt F w d D) (hi : i < D.sks.length) (hok : (D.sks.getD i Hd.none).Ok) (hs : ∀ j, j < (D.sks.getD i Hd.none).sk.lv.length → Srt ((D.sks.getD i Hd.none).sk.lv.getD j Lvl.none).items) :
    Calls Try.prog 41 #[.pointer (some ⟨d, 0, none⟩), .int .i64 (i : Int), .int .i64 r] w fun e w' => DQPost (D.sks.getD i Hd.none).sk.lv (D.sks.getD i Hd.none).sk.lo (D.sks.getD i Hd.none).sk.hi r e ∧ Below w.heap.size w w' := by
  obtain ⟨vt, vk, rs, h⟩ := h
  have hdz := lt_of_blk' h.blk
  obtain ⟨g, c, rfl, hg, q0, q1, q2, q3, q4⟩ := h.cells5 hi
  obtain ⟨_, _, c2, _⟩ := blk3 h.blk
  have HH := hid (has_any d (i : Int) _ _ _ _ c2)
  rw [hasB_nat hi] at HH
  have hlv := h.lv i hi
  have HC := hid (fun (w' : World) (hb : Below w.heap.size w w') => count_any (D.sks.getD i Hd.none).sk.k _ _ (D.sks.getD i Hd.none).sk.lo (D.sks.getD i Hd.none).sk.hi _ _ w' (hlv.below hb) (by have := hok.len; omega) (by have := hok.cnt; omega))
  have HR := hid (fun (n : Nat) (hn : n ≤ 1099511627776) (w' : World) (hb : Below w.heap.size w w') => skQuant_any (D.sks.getD i Hd.none).sk.k _ _ n (D.sks.getD i Hd.none).sk.lo (D.sks.getD i Hd.none).sk.hi _ _ w' (hlv.below hb) hs (by have := hok.len; omega) (by have := hok.cnt; omega) hn)
  have hcnt := hok.cnt
  generalize (D.sks.getD i Hd.none).sk = sk at *
  generalize rs.getD i Ref.none = rr at *
  generalize (D.sks.getD i Hd.none).sealed = sl at *
  generalize D.sks.length = n at *
  generalize hwe : wsum sk.lv = ws at *
  have HWE := hid hwe
  clear h hok hlv hs hwe
  go_enter Try.func41, Try.ntmps41
  go_wp2_with (first | (go_at_call 51; refine HH.out.mono ?_; rintro e w' ⟨rfl, hw⟩; obtain rfl := hw.symm))
  have hbB : Below w.heap.size w (w.alloc (skBlk sk.k rr.g sk.lv.length rr.cap sk.lo sk.hi)) := (Below.refl w.heap.size w).alloc (Nat.le_refl _) _
  refine (HC.out _ hbB).mono ?_
  rintro e w1 ⟨rfl, hb1⟩
  have hk1 := below_new hb1 (by simp)
  have HB1 : Hid (Below w.heap.size w w1) := hbB.trans (hb1.mono hbB.size)
  obtain ⟨e0, e1, e2, e3, ez⟩ := blk4 hk1
  clear hb1 hbB hk1 HC
  by_cases h0 : ws = 0
  · subst h0
    go_wp2_with fail
    go_ret2
    refine ⟨?_, HB1.out⟩
    unfold DQPost
    rw [HWE.out, if_pos rfl]
    simp
  · have h0' : ((ws : Int) == 0) = false := by simpa using h0
    have HNE := hid h0
    clear h0
    by_cases h1 : r < 1
    · have h1' : decide (r < 1) = true := decide_eq_true h1
      have H1 := hid h1
      go_wp2_with fail
      go_ret2
      refine ⟨?_, HB1.out⟩
      unfold DQPost
      rw [HWE.out, if_neg HNE.out, if_pos (.inl H1.out)]
      simp
    · have h1' : decide (r < 1) = false := decide_eq_false h1
      by_cases h2 : (ws : Int) < r
      · have h2' : decide ((ws : Int) < r) = true := decide_eq_true h2
        have H2 := hid h2
        go_wp2_with fail
        go_ret2
        refine ⟨?_, HB1.out⟩
        unfold DQPost
        rw [HWE.out, if_neg HNE.out, if_pos (.inr H2.out)]
        simp
      · have h2' : decide ((ws : Int) < r) = false := decide_eq_false h2
        have H12 : Hid (¬ (r < 1 ∨ (ws : Int) < r)) := fun h => h.elim h1 h2
        obtain ⟨rn, rfl⟩ : ∃ rn : Nat, r = (rn : Int) := ⟨r.toNat, by omega⟩
        have HQ := hid (HR.out rn (by omega))
        clear HR
        go_wp2_with fail
        refine (HQ.out _ HB1.out).mono ?_
        rintro e w2 ⟨x, rfl, hx, hb2⟩
        have HX := hid hx
        have HB2 : Hid (Below w.heap.size w w2) := HB1.out.trans (hb2.mono HB1.out.size)
        clear hx hb2
        go_wp2_with fail
        go_ret2
        refine ⟨?_, HB2.out⟩
        unfold DQPost
        rw [HWE.out, if_neg HNE.out, if_neg H12.out]
        exact ⟨x, by simp, by simpa using HX.out⟩

end Go.Proofs.Ytklicjbpjigfdaa
