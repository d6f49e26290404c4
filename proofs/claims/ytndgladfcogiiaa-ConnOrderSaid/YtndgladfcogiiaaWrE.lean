/- Contract: ReadReply. -/
import Derived.Test.YtndgladfcogiiaaWrD
import Derived.Test.YtndgladfcogiiaaTokF
namespace Go.Proofs.Ytndgladfcogiiaa
open Go.RowKit
set_option maxRecDepth 100000
set_option linter.unusedVariables false

set_option maxHeartbeats 1600000 in
theorem readReply_eq (w : World) (A : Option Addr) (n c : Nat) (zs : List Nat) (h : Arg w w.heap.size A n c zs) (hn : 34 ≤ n) (hn2 : n ≤ 4096) (hb : (rdV zs).ok = true) (b : Bool) (hq : decide ((rdV zs).bytes = zs) = b) : Calls Try.prog 52 #[.slice A n c] w (RrX w zs) := by
  have hv : rrV zs = if b then (rdV zs, 0) else (RpV.zero, 3) := by
    unfold rrV; rw [h.len, if_neg (by omega), hb]
    cases b with
    | true => rw [if_pos ⟨hn, rfl, by simpa using hq⟩]; rfl
    | false => rw [if_neg (fun hx => by simp at hq; exact hq hx.2.2)]; rfl
  have HQ := Lib.hid hq
  have HA0 := Lib.hid h
  have HV := Lib.hid hv
  have hd : decide (4096 < (n : Int)) = false := by simp; omega
  have hmf : ∀ (fn : Fn) (first cap : Array Value) (w : World), (Instr.makeFunc fn first cap).run Try.prog w = .ok (.func fn first cap) w := fun _ _ _ _ => rfl
  have hs : RdS ((rrW w).alloc (.cells #[.slice A n c] 167)) w.heap.size (w.heap.size + 2) A n c zs := by
    refine ⟨?_, h.below ((rrW_b w).alloc (by simp [rrW]; omega) _), by omega⟩
    have := BlkL.new (rrW w) [.slice A n c] 167
    simpa using this
  have HS := Lib.hid hs
  have HB := Lib.hid hb
  clear hv h hs hb hq
  go_enter_defers Try.func52, Try.ntmps52
  go_wp2_with (with_reducible refine (pread_any _ _ _ _).mono ?_)
  rintro e w3 ⟨rfl, rfl⟩
  have hsz : ((w.alloc (.cells #[.int .i64 0, .bool false, .int .i64 0, .int .i64 0, .int .i64 0, .int .i64 0] 82)).alloc (.cells #[.int .i64 0] 28)).heap.size = w.heap.size + 2 := by simp
  rw [hsz]
  have HC := Lib.hid (rdReply_ok _ _ _ _ _ _ _ HS.out hn)
  go_wp2_with (with_reducible refine (HC.out).mono ?_)
  rintro e w4 ⟨rfl, h4⟩
  have f4 : Off [w.heap.size + 2] (rrW w) w4 := by
    have : Off [w.heap.size + 2] (rrW w) ((rrW w).alloc (.cells #[.slice A n c] 167)) := (Off.refl _ _).alloc _
    exact this.trans h4
  have HF4 := Lib.hid f4
  have h4s : w.heap.size + 2 < w4.heap.size := by have := h4.size; simp at this; omega
  clear h4 f4 HC HS
  obtain ⟨r, hr⟩ : ∃ r, rdV zs = r := ⟨_, rfl⟩
  rw [hr] at HB HV HQ ⊢
  have hlt4 : w.heap.size + 2 < w4.heap.size := by have := h4s; omega
  have HR := Lib.hid (reply_good (w4.alloc (.cells r.cells.toArray 82)) r HB.out)
  go_wp2_with fail
  refine (HR.out).mono ?_
  rintro e w5 ⟨XA, xc, rfl, ha, hb5⟩
  have hb5' : Below w4.heap.size w4 w5 := ((Below.refl _ w4).alloc (Nat.le_refl _) _).trans (hb5.mono (by simp))
  have r5 := (rrW_r w).off (HF4.out.trans (Off.of_below hb5')) (by simp)
  have f5 := (rrW_f w).off (HF4.out.trans (Off.of_below hb5')) (by simp)
  have b5 : Below w.heap.size w w5 := (rrW_b w).trans ((HF4.out.trans (Off.of_below hb5')).below (by simp [rrW]; omega) (by simp))
  have R5 := Lib.hid r5
  have F5 := Lib.hid f5
  have B5 := Lib.hid b5
  have g0 := r5.cell 0 _ rfl
  have g1 := r5.cell 1 _ rfl
  have g2 := r5.cell 2 _ rfl
  have g3 := r5.cell 3 _ rfl
  have g4 := r5.cell 4 _ rfl
  have g5 := r5.cell 5 _ rfl
  have k0 := r5.froz 0 (by simp)
  have k1 := r5.froz 1 (by simp)
  have k2 := r5.froz 2 (by simp)
  have k3 := r5.froz 3 (by simp)
  have k4 := r5.froz 4 (by simp)
  have k5 := r5.froz 5 (by simp)
  have g6 := f5.cell 0 _ rfl
  have k6 := f5.froz 0 (by simp)
  have l5 := r5.lt
  have l6 := f5.lt
  have t5 : BlkL w5 w4.heap.size r.cells := (BlkL.new w4 r.cells 82).below hb5
  have q0 := t5.cell 0 _ rfl
  have q1 := t5.cell 1 _ rfl
  have q2 := t5.cell 2 _ rfl
  have q3 := t5.cell 3 _ rfl
  have q4 := t5.cell 4 _ rfl
  have q5 := t5.cell 5 _ rfl
  have l7 := t5.lt
  have a5 : Arg w5 w.heap.size A n c zs := HA0.out.below B5.out
  have HE : Hid (Calls Try.prog 75 #[.slice XA 34 xc, .slice A n c] w5 fun e w' => e = .returned (.bool b) ∧ w5 = w') := Lib.hid (equal_any w5 _ _ XA A 34 xc n c _ _ b HQ.out ha a5 (by omega) (by omega))
  clear r5 f5 b5 hb5 hb5' ha HR t5 a5
  cases b with
  | true =>
    have hv : rrV zs = (r, 0) := HV.out
    have HV2 := Lib.hid hv
    clear hv
    go_wp2_with fail
    with_reducible refine (HE.out).mono ?_
    rintro e w6 ⟨rfl, rfl⟩
    go_wp2
    exact rr_rdoor r 0 HV2.out _ (put7_r R5.out (by omega) r 0) (put7_f F5.out (by omega) r 0) (put7_b B5.out (by omega) (by omega) r 0) rfl rfl
  | false =>
    have hv : rrV zs = (RpV.zero, 3) := HV.out
    have HV2 := Lib.hid hv
    clear hv
    go_wp2_with fail
    with_reducible refine (HE.out).mono ?_
    rintro e w6 ⟨rfl, rfl⟩
    go_wp2
    exact rr_rdoor RpV.zero 3 HV2.out _ (put7_r R5.out (by omega) RpV.zero 3) (put7_f F5.out (by omega) RpV.zero 3) (put7_b B5.out (by omega) (by omega) RpV.zero 3) rfl rfl
theorem readReply_any (w : World) (A : Option Addr) (n c : Nat) (zs : List Nat) (h : Arg w w.heap.size A n c zs) : Calls Try.prog 52 #[.slice A n c] w (RrX w zs) := by
  by_cases h1 : 4096 < n
  · exact readReply_long w A n c zs h h1
  by_cases h2 : n < 34
  · exact readReply_short w A n c zs h h2
  cases h3 : (rdV zs).ok with
  | false => exact readReply_bad w A n c zs h (by omega) (by omega) h3
  | true => exact readReply_eq w A n c zs h (by omega) (by omega) h3 _ rfl
end Go.Proofs.Ytndgladfcogiiaa
