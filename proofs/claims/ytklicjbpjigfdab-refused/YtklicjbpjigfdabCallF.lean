/- DERIVED. The walk of the book's fed. -/
import Derived.Test.YtklicjbpjigfdabQ21
namespace Go.Proofs.Ytklicjbpjigfdab
open Go.RowKit
attribute [local go_sem ↓] Go.wp_at_zero Go.wp_at_succ
variable {K : Nat → Prop} {w0 : World}

theorem areCoins_step {t : ByteArray} {k : Nat} (hk : k < t.size) : areCoins (t.data.toList.take (k + 1)) = (areCoins (t.data.toList.take k) && (((t[k].toNat : Int) == 48) || ((t[k].toNat : Int) == 49))) := by
  rw [take_snoc t k hk]
  unfold areCoins
  rw [List.all_append]
  congr 1
  simp only [List.all_cons, List.all_nil, Bool.and_true]
  have e1 : (t[k] == 48) = ((t[k].toNat : Int) == 48) := by
    have := u8_is t[k] 48 (by decide)
    by_cases h : t[k] = 48
    · have := this.2 h
      simp [h]
    · have h2 : ¬ ((t[k].toNat : Int) = ((48 : Nat) : Int)) := fun e => h (this.1 e)
      have h3 : ((t[k].toNat : Int) == 48) = false := by rw [beq_eq_false_iff_ne]; exact h2
      rw [h3, beq_eq_false_iff_ne]; exact h
  have e2 : (t[k] == 49) = ((t[k].toNat : Int) == 49) := by
    have := u8_is t[k] 49 (by decide)
    by_cases h : t[k] = 49
    · have := this.2 h
      simp [h]
    · have h2 : ¬ ((t[k].toNat : Int) = ((49 : Nat) : Int)) := fun e => h (this.1 e)
      have h3 : ((t[k].toNat : Int) == 49) = false := by rw [beq_eq_false_iff_ne]; exact h2
      rw [h3, beq_eq_false_iff_ne]; exact h
  rw [e1, e2]

set_option maxHeartbeats 4000000 in
set_option maxRecDepth 100000 in
theorem fed_any (p d : Nat) (kd A B C : Int) (t : ByteArray) (D : Dk) (ps : Nat → Nat) (w : World) (h : BkSt K w0 w p d D (bkOf D) ps) (hd : DInv D) (hkd : ¬ onOne kd) (ht : t.size ≤ 140737488355328) :
    Calls Try.prog 63 #[.pointer (some ⟨p, 0, none⟩), .agg #[.int .i64 kd, .int .i64 A, .int .i64 B, .int .i64 C, .string t]] w fun e w' => CallPost K w0 p d kd A D e w' := by
  obtain ⟨hbx, hkx⟩ := h.boxed (clBlk kd A B C t)
  have hkl := h.kl
  have HBOX := hid (heap_alloc_new w (clBlk kd A B C t))
  have hxz : w.heap.size < (w.alloc (clBlk kd A B C t)).heap.size := by simp
  obtain ⟨F, hdk, hstep⟩ := hbx.desk
  have HCALL := hid (fun (w' : World) (hb : Below (w.alloc (clBlk kd A B C t)).heap.size (w.alloc (clBlk kd A B C t)) w') => (feedT d t D w' (hdk.below hb) hd ht).mono (fun e w'' (hh : ∃ c D', e = .returned (.int .i64 c) ∧ DeskStep F w' w'' d D' ∧ FeedRel t D c D') => (by obtain ⟨c, D', h1, h2, h3⟩ := hh; exact ⟨c, D', h1, hstep w'' D' (h2.later hb), h3⟩ : ∃ c D', e = .returned (.int .i64 c) ∧ BkSt (fun b => K b ∨ b = w.heap.size) (w.alloc (clBlk kd A B C t)) w'' p d D' (bkOf D) ps ∧ FeedRel t D c D')))
  obtain ⟨ao0, cc0, f0, _, _, f3, hpz, _, _⟩ := hbx.facts
  obtain ⟨m0, m1, m2, m3, m4, mz⟩ := blk5 HBOX.out
  have HKX := hid hkx
  have HKL := hid hkl
  clear hbx hkx hdk hstep h hkl
  go_enter Try.func63, Try.ntmps63
  go_wp2_with fail
  generalize hwA : w.alloc (clBlk kd A B C t) = wA at *
  have HWA := hid hwA
  clear hwA
  go_region_held3 (fun w' => w'.cell? ⟨p, 0, none⟩ = some (.pointer (some ⟨d, 0, none⟩)) ∧ w'.cell? ⟨w.heap.size, 4, none⟩ = some (.string t)) (first | go_keep | exact ⟨f0', m4'⟩) (first | (go_at_call 86; refine (HCALL.out _ (bdrewT (Below.refl _ _))).mono ?_; rintro e w1 ⟨c, D', rfl, hbk, hrel⟩; obtain ⟨ao1, cc1, f0', f1', f2', f3', hpz1, fz1, fp1⟩ := hbk.facts; obtain ⟨m0', m1', m2', m3', m4', mz'⟩ := blk5 ((hbk.keeps.block w.heap.size (.inr rfl)).trans HBOX.out)))
  have HBK := hid hbk
  have hxz1 : w.heap.size < w1.heap.size := Nat.lt_of_lt_of_le hxz hbk.keeps.size
  have HBACK : Hid (∀ (w' : World) (D' : Dk) (E' : Bk) (ps' : Nat → Nat), BkSt (fun b => K b ∨ b = w.heap.size) wA w' p d D' E' ps' → BkSt K w0 w' p d D' E' ps') := fun w' D' E' ps' hh => hh.back (fun b hb => .inl hb) HKL.out HKX.out
  have hT := hd.tape
  have f2'' : w1.cell? ⟨p, 2, none⟩ = some (.int .i64 (D.tape.length : Int)) := f2'
  have hszc : (t.size : Int) ≤ 140737488355328 := by omega
  have HREL := hid hrel
  clear f0 f3 m0 m1 m2 m3 m4 mz HCALL hpz hxz hbk hrel f2'
  by_cases hlong : 1024 < D.tape.length + t.size
  · have hd1 : decide (1024 < (D.tape.length : Int) + (t.size : Int)) = true := decide_eq_true (by omega)
    generalize hTl : D.tape.length = T at *
    go_wp2_with fail
    go_quiet (fail)
    go_wp2_with fail
    go_loopw [7, 8] (fun s7 s8 wr => ∃ j : Nat, j ≤ t.size ∧ s8 = .int .i64 (j : Int) ∧ s7 = .int .i64 (if areCoins (t.data.toList.take j) then 3 else 2) ∧ wr = w1.drewN nq) (fun _ s8 _ => t.size - (intOf s8).toNat)
    case atStart => exact ⟨0, Nat.zero_le _, rfl, by simp [areCoins], rfl⟩
    case round =>
      obtain ⟨k, hk, rfl, rfl, rfl⟩ := hrel
      by_cases hlt : k < t.size
      · have HS := hid (areCoins_step (t := t) hlt)
        generalize hac : areCoins (t.data.toList.take k) = ac at *
        by_cases h0 : (t[k].toNat : Int) = 48
        · have h0' : ((t[k].toNat : Int) != 48) = false := by simp [h0]
          go_wp2_with fail
          go_roundw
          case rel => exact ⟨k + 1, by omega, by go_num, by rw [HS.out, h0]; simp, trivial⟩
          case measure => simp [intOf]; omega
        · have h0' : ((t[k].toNat : Int) != 48) = true := by simp [h0]
          have h0'' : ((t[k].toNat : Int) == 48) = false := by rw [beq_eq_false_iff_ne]; exact h0
          by_cases h1 : (t[k].toNat : Int) = 49
          · have h1' : ((t[k].toNat : Int) != 49) = false := by simp [h1]
            go_wp2_with fail
            go_roundw
            case rel => exact ⟨k + 1, by omega, by go_num, by rw [HS.out, h1]; simp, trivial⟩
            case measure => simp [intOf]; omega
          · have h1' : ((t[k].toNat : Int) != 49) = true := by simp [h1]
            have h1'' : ((t[k].toNat : Int) == 49) = false := by rw [beq_eq_false_iff_ne]; exact h1
            go_wp2_with fail
            go_roundw
            case rel => exact ⟨k + 1, by omega, by go_num, by rw [HS.out, h0'', h1'']; simp, trivial⟩
            case measure => simp [intOf]; omega
      · have hkk : t.data.toList.take k = t.data.toList := List.take_of_length_le (by simp; omega)
        rw [hkk]
        cases hco : areCoins t.data.toList with
        | false =>
          have hc2 : c = 2 ∧ D' = D := by
            rcases HREL.out with ⟨h, _, h2⟩ | ⟨h, _⟩
            · exact ⟨h, h2⟩
            · rw [h] at hco; cases hco
          obtain ⟨rfl, rfl⟩ := hc2
          go_wp2_with fail
          go_ret2
          exact bk_same (HBACK.out _ _ _ _ HBK.out.drewN) (by decide)
        | true =>
          have hc2 : c = 3 ∧ D' = D := by
            rcases HREL.out with ⟨_, h, _⟩ | ⟨_, ⟨h, _, h2⟩ | ⟨_, h, _⟩⟩
            · rw [h] at hco; cases hco
            · exact ⟨h, h2⟩
            · omega
          obtain ⟨rfl, rfl⟩ := hc2
          go_wp2_with fail
          go_ret2
          exact bk_same (HBACK.out _ _ _ _ HBK.out.drewN) (by decide)
  · have hd1 : decide (1024 < (D.tape.length : Int) + (t.size : Int)) = false := decide_eq_false (by omega)
    generalize hTl : D.tape.length = T at *
    go_wp2_with fail
    go_quiet (fail)
    go_wp2_with fail
    go_loopw [7, 8] (fun s7 s8 wr => ∃ j : Nat, j ≤ t.size ∧ s8 = .int .i64 (j : Int) ∧ s7 = .int .i64 (if areCoins (t.data.toList.take j) then 0 else 2) ∧ wr = w1.drewN nq) (fun _ s8 _ => t.size - (intOf s8).toNat)
    case atStart => exact ⟨0, Nat.zero_le _, rfl, by simp [areCoins], rfl⟩
    case round =>
      obtain ⟨k, hk, rfl, rfl, rfl⟩ := hrel
      by_cases hlt : k < t.size
      · have HS := hid (areCoins_step (t := t) hlt)
        generalize hac : areCoins (t.data.toList.take k) = ac at *
        by_cases h0 : (t[k].toNat : Int) = 48
        · have h0' : ((t[k].toNat : Int) != 48) = false := by simp [h0]
          go_wp2_with fail
          go_roundw
          case rel => exact ⟨k + 1, by omega, by go_num, by rw [HS.out, h0]; simp, trivial⟩
          case measure => simp [intOf]; omega
        · have h0' : ((t[k].toNat : Int) != 48) = true := by simp [h0]
          have h0'' : ((t[k].toNat : Int) == 48) = false := by rw [beq_eq_false_iff_ne]; exact h0
          by_cases h1 : (t[k].toNat : Int) = 49
          · have h1' : ((t[k].toNat : Int) != 49) = false := by simp [h1]
            go_wp2_with fail
            go_roundw
            case rel => exact ⟨k + 1, by omega, by go_num, by rw [HS.out, h1]; simp, trivial⟩
            case measure => simp [intOf]; omega
          · have h1' : ((t[k].toNat : Int) != 49) = true := by simp [h1]
            have h1'' : ((t[k].toNat : Int) == 49) = false := by rw [beq_eq_false_iff_ne]; exact h1
            go_wp2_with fail
            go_roundw
            case rel => exact ⟨k + 1, by omega, by go_num, by rw [HS.out, h0'', h1'']; simp, trivial⟩
            case measure => simp [intOf]; omega
      · have hkk : t.data.toList.take k = t.data.toList := List.take_of_length_le (by simp; omega)
        rw [hkk]
        cases hco : areCoins t.data.toList with
        | false =>
          have hc2 : c = 2 ∧ D' = D := by
            rcases HREL.out with ⟨h, _, h2⟩ | ⟨h, _⟩
            · exact ⟨h, h2⟩
            · rw [h] at hco; cases hco
          obtain ⟨rfl, rfl⟩ := hc2
          go_wp2_with fail
          go_ret2
          exact bk_same (HBACK.out _ _ _ _ HBK.out.drewN) (by decide)
        | true =>
          have hc2 : c = 0 ∧ D' = { D with tape := D.tape ++ coinsOf t.data.toList } := by
            rcases HREL.out with ⟨_, h, _⟩ | ⟨_, ⟨_, h, _⟩ | ⟨h, _, h2⟩⟩
            · rw [h] at hco; cases hco
            · omega
            · exact ⟨h, h2⟩
          obtain ⟨rfl, hDD⟩ := hc2
          go_wp2_with fail
          go_region_with fail
          all_goals
            have hst := (HBK.out.drewN (n := nq + 1)).setTape (T + t.size)
            have HST := hid (HBACK.out _ _ _ _ hst)
            clear hst
            go_wp2_with fail
            go_ret2
            have hlen : (coinsOf t.data.toList).length = t.size := by simp [coinsOf]
            have hE : ({ bkOf D with tape := T + t.size } : Bk) = { bkOf D' with tape := D'.tape.length } := by
              rw [hDD, ← hTl]
              simp [bkOf, hlen]
            have e := HST.out
            rw [hE, show ((T + t.size : Nat) : Int) = (T : Int) + (t.size : Int) by omega] at e
            refine ⟨0, D', { bkOf D' with tape := D'.tape.length }, ps, rfl, e, .inr ⟨rfl, ?_, ?_, ?_, by rw [if_neg hkd], fun h => absurd h hkd⟩⟩
            · rw [hDD]
              exact ⟨hd.room1, hd.room2, hd.len, by show (D.tape ++ coinsOf t.data.toList).length ≤ 1024; rw [List.length_append, hlen, hTl]; omega, hd.sk, hd.tk⟩
            · rw [hDD]; exact Nat.le_refl _
            · intro j _ _; rw [hDD]

end Go.Proofs.Ytklicjbpjigfdab
