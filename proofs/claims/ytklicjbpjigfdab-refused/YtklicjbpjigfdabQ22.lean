/- DERIVED. The walk of the book's coins. -/
import Derived.Test.YtklicjbpjigfdabQ21
import Derived.Test.YtklicjbpjigfdabCallT
import Derived.Test.YtklicjbpjigfdabCallF
import Derived.Test.YtklicjbpjigfdabCallR
namespace Go.Proofs.Ytklicjbpjigfdab
open Go.RowKit
attribute [local go_sem ↓] Go.wp_at_zero Go.wp_at_succ
variable {K : Nat → Prop} {w0 : World}

set_option maxHeartbeats 2000000 in
set_option maxRecDepth 100000 in
theorem bcoins_any (p d : Nat) (kd A B C c : Int) (t : ByteArray) (D D' : Dk) (E' : Bk) (ps : Nat → Nat) (w : World) (h : BkSt K w0 w p d D' E' ps) (hr : CallRel kd A D c D' E') :
    Calls Try.prog 29 #[.pointer (some ⟨p, 0, none⟩), .agg #[.int .i64 kd, .int .i64 A, .int .i64 B, .int .i64 C, .string t], .int .i64 c] w fun e w' => e = .returned (.bool true) ∧ BkSt K w0 w' p d D' (bkOf D') ps := by
  have hal : Below w.heap.size w (w.alloc (clBlk kd A B C t)) := (Below.refl w.heap.size w).alloc (Nat.le_refl _) _
  obtain ⟨ao0, cc0, f0, f1, f2, f3, hpz, fz, _⟩ := h.facts
  obtain ⟨F, hdk, _⟩ := h.desk
  have HLE := hid (deskLeft d D' _ (hdk.below hal))
  have HAB := hid (fun (w' : World) => about_any kd A B C t w')
  have HBK := hid h
  have HAL := hid hal
  have HRT := hid (show (if kd = 2 ∨ kd = 3 ∨ kd = 6 then A else -1) = (if onOne kd then A else -1) from rfl)
  have hetape : E'.tape = (if c = 0 ∧ onOne kd then D.tape.length else D'.tape.length) := by
    rcases hr with ⟨hc, rfl, rfl⟩ | ⟨rfl, _, _, _, rfl, _⟩
    · rw [if_neg (fun h => hc h.1)]; rfl
    · by_cases h1 : onOne kd
      · simp [h1]
      · simp [h1]
  have hE : ({ E' with tape := D'.tape.length } : Bk) = bkOf D' := by
    rcases hr with ⟨_, rfl, rfl⟩ | ⟨_, _, _, _, rfl, _⟩ <;> rfl
  have HE := hid hE
  clear h hdk hal hE
  by_cases h1 : c = 0 ∧ onOne kd
  · obtain ⟨hc, hk⟩ := h1
    rw [if_pos ⟨hc, hk⟩] at hetape
    have hrel := hr
    rcases hr with ⟨hc', _⟩ | ⟨_, _, _, _, _, h6⟩
    · exact absurd hc hc'
    · obtain ⟨hle, hA⟩ := h6 hk
      have HABk : Hid (∀ w' : World, Calls Try.prog 27 #[.agg #[.int .i64 kd, .int .i64 A, .int .i64 B, .int .i64 C, .string t]] w' fun e w'' => e = .returned (.int .i64 A) ∧ Below w'.heap.size w' w'') := fun w' => by
        have := HAB.out w'
        rw [HRT.out, if_pos hk] at this
        exact this
      rw [hetape] at f2
      subst hc
      have d1 : decide ((D'.tape.length : Int) ≤ (D.tape.length : Int)) = true := decide_eq_true (by omega)
      generalize hn : D'.tape.length = n at *
      generalize hm : D.tape.length = m at *
      clear HAB HRT hrel hetape
      go_enter Try.func29, Try.ntmps29
      go_wp2_with (first | (go_at_call 64; refine HLE.out.mono ?_; rintro e w' ⟨rfl, hw⟩; obtain rfl := hw.symm))
      refine (HABk.out _).mono ?_
      rintro e w1 ⟨rfl, hb1⟩
      have hB1 := HAL.out.trans (hb1.mono HAL.out.size)
      have k0 := (hB1.cell (p := ⟨p, 0, none⟩) hpz).trans f0
      have k2 := (hB1.cell (p := ⟨p, 2, none⟩) hpz).trans f2
      have kz : ∀ o, w1.frozen? ⟨p, o, none⟩ = false := fun o => (hB1.frozen (p := ⟨p, o, none⟩) hpz).trans (fz o)
      have hpz1 : p < w1.heap.size := Nat.lt_of_lt_of_le hpz hB1.size
      have HST := hid ((HBK.out.below hB1).setTape n)
      clear hb1 hB1 f0 f1 f2 f3 fz
      go_wp2_with fail
      go_ret
      refine ⟨by simp, ?_⟩
      have e := HST.out
      rw [HE.out] at e
      exact e
  · rw [if_neg h1] at hetape
    have HABk : Hid (∀ w' : World, Calls Try.prog 27 #[.agg #[.int .i64 kd, .int .i64 A, .int .i64 B, .int .i64 C, .string t]] w' fun e w'' => e = .returned (.int .i64 (if onOne kd then A else -1)) ∧ Below w'.heap.size w' w'') := HAB.out
    have HEE : Hid (E' = bkOf D') := by
      have := HE.out
      rw [← hetape] at this
      exact this
    rw [hetape] at f2
    by_cases hc : c = 0
    · have hk : ¬ onOne kd := fun hk => h1 ⟨hc, hk⟩
      rw [if_neg hk] at HABk
      subst hc
      generalize hn : D'.tape.length = n at *
      clear HAB HRT hr h1 hetape
      go_enter Try.func29, Try.ntmps29
      go_wp2_with (first | (go_at_call 64; refine HLE.out.mono ?_; rintro e w' ⟨rfl, hw⟩; obtain rfl := hw.symm))
      refine (HABk.out _).mono ?_
      rintro e w1 ⟨rfl, hb1⟩
      have hB1 := HAL.out.trans (hb1.mono HAL.out.size)
      have k0 := (hB1.cell (p := ⟨p, 0, none⟩) hpz).trans f0
      have k2 := (hB1.cell (p := ⟨p, 2, none⟩) hpz).trans f2
      have hpz1 : p < w1.heap.size := Nat.lt_of_lt_of_le hpz hB1.size
      have HST := hid (HBK.out.below hB1)
      clear hb1 hB1 f0 f1 f2 f3 fz
      go_wp2_with fail
      go_ret
      refine ⟨by simp, ?_⟩
      have e := HST.out
      rw [HEE.out] at e
      exact e
    · have hc' : (c == 0) = false := by simpa using hc
      generalize hs : (if onOne kd then A else -1) = sA at *
      generalize hn : D'.tape.length = n at *
      clear HAB HRT hr h1 hetape hs
      go_enter Try.func29, Try.ntmps29
      go_wp2_with (first | (go_at_call 64; refine HLE.out.mono ?_; rintro e w' ⟨rfl, hw⟩; obtain rfl := hw.symm))
      refine (HABk.out _).mono ?_
      rintro e w1 ⟨rfl, hb1⟩
      have hB1 := HAL.out.trans (hb1.mono HAL.out.size)
      have k0 := (hB1.cell (p := ⟨p, 0, none⟩) hpz).trans f0
      have k2 := (hB1.cell (p := ⟨p, 2, none⟩) hpz).trans f2
      have hpz1 : p < w1.heap.size := Nat.lt_of_lt_of_le hpz hB1.size
      have HST := hid (HBK.out.below hB1)
      clear hb1 hB1 f0 f1 f2 f3 fz
      go_wp2_with fail
      go_ret
      refine ⟨by simp, ?_⟩
      have e := HST.out
      rw [HEE.out] at e
      exact e

end Go.Proofs.Ytklicjbpjigfdab

/- DERIVED. The walk of the book's call. -/
namespace Go.Proofs.Ytklicjbpjigfdab
open Go.RowKit
attribute [local go_sem ↓] Go.wp_at_zero Go.wp_at_succ
variable {K : Nat → Prop} {w0 : World}

theorem CallPost.form {p d : Nat} {kd A : Int} {D : Dk} {e : Ending} {w : World} (h : CallPost K w0 p d kd A D e w) : ∃ c : Int, e = .returned (.tuple #[.int .i64 c, .bool true]) := by
  obtain ⟨c, _, _, _, he, _⟩ := h
  exact ⟨c, he⟩

set_option maxHeartbeats 2000000 in
set_option maxRecDepth 100000 in
theorem call_any (p d : Nat) (kd A B C : Int) (t : ByteArray) (D : Dk) (ps : Nat → Nat) (w : World) (h : BkSt K w0 w p d D (bkOf D) ps) (hd : DInv D) (hC : C ≤ 9223372036854775807) (ht : t.size ≤ 140737488355328) :
    Calls Try.prog 26 #[.pointer (some ⟨p, 0, none⟩), .agg #[.int .i64 kd, .int .i64 A, .int .i64 B, .int .i64 C, .string t]] w fun e w' => CallPost K w0 p d kd A D e w' := by
  have hal : Below w.heap.size w (w.alloc (clBlk kd A B C t)) := (Below.refl w.heap.size w).alloc (Nat.le_refl _) _
  have hA := h.below hal
  by_cases h1 : kd = 1
  · have hkd := h1
    have HC := hid (opened_new p d kd A B C t D ps _ hA hd hkd)
    subst hkd
    clear h hA hal hd
    go_enter Try.func26, Try.ntmps26
    go_wp2_with fail
    refine HC.out.mono ?_
    intro e w1 hp
    obtain ⟨c, rfl⟩ := hp.form
    have HP := hid hp
    clear hp
    go_wp2_with fail
    go_ret2
    exact HP.out
  · have e1 : (kd == 1) = false := by simpa using h1
    by_cases h4 : kd = 4
    · have hkd := h4
      have HC := hid (opened_read p d kd A B C t D ps _ hA hd (by omega) (by unfold onOne; omega) ht)
      subst hkd
      clear h hA hal hd
      go_enter Try.func26, Try.ntmps26
      go_wp2_with fail
      refine HC.out.mono ?_
      intro e w1 hp
      obtain ⟨c, rfl⟩ := hp.form
      have HP := hid hp
      clear hp
      go_wp2_with fail
      go_ret2
      exact HP.out
    · have e4 : (kd == 4) = false := by simpa using h4
      by_cases h2 : kd = 2
      · have hkd := h2
        have HC := hid (added_any p d kd A B C t D ps _ hA hd (by unfold onOne; omega) hC)
        subst hkd
        clear h hA hal hd
        go_enter Try.func26, Try.ntmps26
        go_wp2_with fail
        refine HC.out.mono ?_
        intro e w1 hp
        obtain ⟨c, rfl⟩ := hp.form
        have HP := hid hp
        clear hp
        go_wp2_with fail
        go_ret2
        exact HP.out
      · have e2 : (kd == 2) = false := by simpa using h2
        by_cases h3 : kd = 3
        · have hkd := h3
          have HC := hid (bjoined_any p d kd A B C t D ps _ hA hd (by unfold onOne; omega))
          subst hkd
          clear h hA hal hd
          go_enter Try.func26, Try.ntmps26
          go_wp2_with fail
          refine HC.out.mono ?_
          intro e w1 hp
          obtain ⟨c, rfl⟩ := hp.form
          have HP := hid hp
          clear hp
          go_wp2_with fail
          go_ret2
          exact HP.out
        · have e3 : (kd == 3) = false := by simpa using h3
          by_cases h5 : kd = 5
          · have hkd := h5
            have HC := hid (sealed_any p d kd A B C t D ps _ hA hd (by unfold onOne; omega))
            subst hkd
            clear h hA hal hd
            go_enter Try.func26, Try.ntmps26
            go_wp2_with fail
            refine HC.out.mono ?_
            intro e w1 hp
            obtain ⟨c, rfl⟩ := hp.form
            have HP := hid hp
            clear hp
            go_wp2_with fail
            go_ret2
            exact HP.out
          · have e5 : (kd == 5) = false := by simpa using h5
            by_cases h6 : kd = 6
            · have hkd := h6
              have HC := hid (taken_any p d kd A B C t D ps _ hA hd (by unfold onOne; omega) ht)
              subst hkd
              clear h hA hal hd
              go_enter Try.func26, Try.ntmps26
              go_wp2_with fail
              refine HC.out.mono ?_
              intro e w1 hp
              obtain ⟨c, rfl⟩ := hp.form
              have HP := hid hp
              clear hp
              go_wp2_with fail
              go_ret2
              exact HP.out
            · have e6 : (kd == 6) = false := by simpa using h6
              have HC := hid (fed_any p d kd A B C t D ps _ hA hd (by unfold onOne; omega) ht)
              clear h hA hal hd
              go_enter Try.func26, Try.ntmps26
              go_wp2_with fail
              refine HC.out.mono ?_
              intro e w1 hp
              obtain ⟨c, rfl⟩ := hp.form
              have HP := hid hp
              clear hp
              go_wp2_with fail
              go_ret2
              exact HP.out

end Go.Proofs.Ytklicjbpjigfdab

/- DERIVED. The walk of the statement Refused. -/
namespace Go.Proofs.Ytklicjbpjigfdab
open Go.RowKit
attribute [local go_sem ↓] Go.wp_at_zero Go.wp_at_succ
variable {K : Nat → Prop} {w0 : World}

/-- A call of the script. -/
structure Cl where
  kd : Int
  a : Int
  b : Int
  c : Int
  s : ByteArray
def Cl.zero : Cl := ⟨0, 0, 0, 0, ByteArray.empty⟩
def CallsAt (w : World) (ao : Option Addr) (n : Nat) (cs : List Cl) : Prop := ∀ i, i < n → ∃ b off, ao = some ⟨b, off, none⟩ ∧ b < w.heap.size ∧ w.cell? ⟨b, off + i * 5, none⟩ = some (.int .i64 (cs.getD i Cl.zero).kd) ∧ w.cell? ⟨b, off + i * 5 + 1, none⟩ = some (.int .i64 (cs.getD i Cl.zero).a) ∧ w.cell? ⟨b, off + i * 5 + 2, none⟩ = some (.int .i64 (cs.getD i Cl.zero).b) ∧ w.cell? ⟨b, off + i * 5 + 3, none⟩ = some (.int .i64 (cs.getD i Cl.zero).c) ∧ w.cell? ⟨b, off + i * 5 + 4, none⟩ = some (.string (cs.getD i Cl.zero).s)

/-- The book of a new desk. -/
theorem book_new {w w1 : World} {d room : Nat} (hd : DeskAt (fun b => b = d) w1 d ⟨room, [], []⟩) (hb : Below w.heap.size w w1) (hdw : w.heap.size ≤ d) :
    BkSt (fun b => b < w.heap.size) w (w1.alloc (bkBlk d (.slice none 0 0) ⟨room, 0, []⟩)) w1.heap.size d ⟨room, [], []⟩ (bkOf ⟨room, [], []⟩) (fun _ => 0) := by
  have hdz : d < w1.heap.size := by
    obtain ⟨vt, vk, rs, hin⟩ := hd
    exact hin.flt d rfl
  have hal : Below w1.heap.size w1 (w1.alloc (bkBlk d (.slice none 0 0) ⟨room, 0, []⟩)) := (Below.refl _ _).alloc (Nat.le_refl _) _
  have hbs := hb.size
  refine ⟨fun b => if b = d then 1 else if b = w1.heap.size then 1000 else 0, .slice none 0 0, fun _ => .slice none 0 0, fun _ => .slice none 0 0, ⟨heap_alloc_new _ _, ?_, World.ownsRow_nil _ _ _ _, fun b e => by simp [Value.ownBlock] at e, ?_, fun i hi => by simp [bkOf] at hi, fun b e => ?_, by simp [bkOf]⟩, fun b hb' => ⟨?_, hb'⟩, ?_⟩
  · show (if w1.heap.size = d then 1 else if w1.heap.size = w1.heap.size then 1000 else 0) = 1000
    rw [if_neg (by omega), if_pos rfl]
  · refine (hd.below hal).mono (fun b e => ?_) (fun b e => ?_)
    · show (if b = d then 1 else _) = 1
      rw [if_pos e]
    · by_cases e1 : b = d
      · simp; omega
      · have e' : (if b = d then 1 else if b = w1.heap.size then 1000 else 0) = 1 := e
        rw [if_neg e1] at e'
        by_cases e2 : b = w1.heap.size
        · rw [if_pos e2] at e'; omega
        · rw [if_neg e2] at e'; omega
  · have e' : (if b = d then 1 else if b = w1.heap.size then 1000 else 0) ≠ 0 := e
    by_cases e1 : b = d
    · simp; omega
    · rw [if_neg e1] at e'
      by_cases e2 : b = w1.heap.size
      · simp; omega
      · rw [if_neg e2] at e'; exact absurd rfl e'
  · show (if b = d then 1 else if b = w1.heap.size then 1000 else 0) = 0
    rw [if_neg (by omega), if_neg (by omega)]
  · have h2 := hb.trans (hal.mono hb.size)
    exact ⟨h2.os, h2.tape, h2.output, h2.size, fun b hb' => h2.block b hb'⟩

theorem still_of {kd A c : Int} {D D' : Dk} {E' : Bk} (h : CallRel kd A D c D' E') : D.sks.length ≤ D'.sks.length ∧ ∀ i, i < D.sks.length → (i : Int) ≠ (if c = 0 then (if onOne kd then A else -1) else -1) → txtOf D i = txtOf D' i := by
  rcases h with ⟨hc, rfl, _⟩ | ⟨hc, _, h1, h2, _⟩
  · exact ⟨Nat.le_refl _, fun i _ _ => rfl⟩
  · refine ⟨h1, fun i hi hne => ?_⟩
    rw [if_pos hc] at hne
    unfold txtOf
    rw [h2 i hi hne]
theorem CallRel.dinv {kd A c : Int} {D D' : Dk} {E' : Bk} (h : CallRel kd A D c D' E') (hd : DInv D) : DInv D' ∧ E'.pg.length = D'.sks.length := by
  rcases h with ⟨_, rfl, rfl⟩ | ⟨_, h1, _, _, rfl, _⟩
  · exact ⟨hd, bkOf_len _⟩
  · exact ⟨h1, bkOf_len _⟩

/-- The state of the loop. -/
def RfSt (w wr : World) (p d : Nat) (D : Dk) (v : Value) : Prop := ∃ K w1 ps, BkSt K w1 wr p d D (bkOf D) ps ∧ Strs wr v D.sks.length (txtOf D) ∧ (∀ b, v.ownBlock = some b → K b) ∧ (∀ b, b < w.heap.size → K b) ∧ Keeps (fun b => b < w.heap.size) w w1

end Go.Proofs.Ytklicjbpjigfdab

/- DERIVED. The walk of the statement Refused where the room is refused. -/
namespace Go.Proofs.Ytklicjbpjigfdab
open Go.RowKit
attribute [local go_sem ↓] Go.wp_at_zero Go.wp_at_succ

set_option maxHeartbeats 400000 in
set_option maxRecDepth 100000 in
theorem refused_no (room : Int) (ao : Option Addr) (n cap : Nat) (w : World) (h1 : room < 1) :
    Calls Try.prog 7 #[.int .i64 room, .slice ao n cap] w fun e w' => e = .returned (.bool true) ∧ Below w.heap.size w w' := by
  have HNW := hid (new_no room w (by omega))
  go_enter Try.func7, Try.ntmps7
  go_wp2_with fail
  refine HNW.out.mono ?_
  rintro e w' ⟨rfl, hw⟩
  obtain rfl := hw.symm
  clear hw HNW
  go_wp2_with fail
  go_ret
  exact ⟨by simp, Below.refl _ _⟩
set_option maxHeartbeats 400000 in
set_option maxRecDepth 100000 in
theorem refused_no2 (room : Int) (ao : Option Addr) (n cap : Nat) (w : World) (h1 : 8 < room) :
    Calls Try.prog 7 #[.int .i64 room, .slice ao n cap] w fun e w' => e = .returned (.bool true) ∧ Below w.heap.size w w' := by
  have HNW := hid (new_no room w (by omega))
  go_enter Try.func7, Try.ntmps7
  go_wp2_with fail
  refine HNW.out.mono ?_
  rintro e w' ⟨rfl, hw⟩
  obtain rfl := hw.symm
  clear hw HNW
  go_wp2_with fail
  go_ret
  exact ⟨by simp, Below.refl _ _⟩

end Go.Proofs.Ytklicjbpjigfdab
