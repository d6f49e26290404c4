/- Contracts: Load, Swap, Clock, Tick, Word, Count of a Mach. -/
import Derived.Test.YtpjgpiiibgogeaaMaB
import Derived.Test.YtpjgpiiibgogeaaSums
namespace Go.Proofs.Ytpjgpiiibgogeaa
open Go.RowKit
set_option maxRecDepth 100000
set_option linter.unusedVariables false

section
variable (w : World) (b bw n : Nat) (ws : List Nat) (clk : Int) (k : Nat) (ring : List Value)
theorem load_bad (h : MachS w b bw n ws clk k ring) (who word : Int) (hb : (inB who 64 && inB word n) = false) :
    Calls Try.prog 87 #[.pointer (some ⟨b, 0, none⟩), .int .i64 who, .int .i64 word] w fun e w' => e = .returned (.tuple #[.int .u64 0, .int .i64 1]) ∧ w = w' := by
  have HW := Lib.hid (isWho_any w who)
  have HP := Lib.hid (isWord_any w b (some ⟨bw, 0, none⟩) n word h.c0)
  clear h
  rcases h1 : inB who 64 with _ | _
  · rw [h1] at HW
    go_enter Try.func87, Try.ntmps87
    go_wp2_with fail
    with_reducible refine HW.out.mono ?_
    rintro e w1 ⟨rfl, hw⟩
    subst hw
    go_wp2
    go_ret2
    exact ⟨rfl, rfl⟩
  · rw [h1] at hb HW
    have h2 : inB word n = false := by simpa using hb
    rw [h2] at HP
    go_enter Try.func87, Try.ntmps87
    go_wp2_with fail
    with_reducible refine HW.out.mono ?_
    rintro e w1 ⟨rfl, hw⟩
    subst hw
    go_wp2_with fail
    with_reducible refine HP.out.mono ?_
    rintro e w1 ⟨rfl, hw⟩
    subst hw
    go_wp2
    go_ret2
    exact ⟨rfl, rfl⟩
set_option maxHeartbeats 800000 in
theorem load_ok (h : MachS w b bw n ws clk k ring) (hk : k < 9223372036854775807) (who : Int) (j : Nat) (h1 : inB who 64 = true) (hj : j < n) :
    Calls Try.prog 87 #[.pointer (some ⟨b, 0, none⟩), .int .i64 who, .int .i64 (j : Int)] w fun e w' => e = .returned (.tuple #[.int .u64 (ws.getD j 0 : Nat), .int .i64 0]) ∧
      MachS w' b bw n ws clk (k + 1) (put6 ring (k % 64) ⟨who, 1, j, ws.getD j 0, 0, true⟩) ∧ Off [b] w w' := by
  have HW := Lib.hid (isWho_any w who)
  have HP := Lib.hid (isWord_any w b (some ⟨bw, 0, none⟩) n j h.c0)
  have h2 : inB (j : Int) (n : Int) = true := inB_iff.mpr (by omega)
  rw [h1] at HW
  rw [h2] at HP
  have c0 := h.c0
  have hw := h.wat hj
  have hlt := h.blk.lt
  have hltw := h.wd.lt
  have HR := Lib.hid (remember_any w b bw n ws clk k ring h hk ⟨who, 1, j, ws.getD j 0, 0, true⟩)
  simp only [AccV.cells] at HR
  clear h h1 h2
  generalize hx : ws.getD j 0 = x at *
  go_enter Try.func87, Try.ntmps87
  go_wp2_with fail
  with_reducible refine HW.out.mono ?_
  rintro e w1 ⟨rfl, hw⟩
  subst hw
  go_wp2_with fail
  with_reducible refine HP.out.mono ?_
  rintro e w1 ⟨rfl, hw⟩
  subst hw
  go_wp2_with fail
  with_reducible refine HR.out.mono ?_
  rintro e w1 ⟨rfl, hm, hf⟩
  go_wp2
  go_ret2
  exact ⟨rfl, hm, hf⟩
theorem swap_bad (h : MachS w b bw n ws clk k ring) (who word old new : Int) (hb : (inB who 64 && inB word n) = false) :
    Calls Try.prog 63 #[.pointer (some ⟨b, 0, none⟩), .int .i64 who, .int .i64 word, .int .u64 old, .int .u64 new] w fun e w' => e = .returned (.tuple #[.bool false, .int .i64 1]) ∧ w = w' := by
  have HW := Lib.hid (isWho_any w who)
  have HP := Lib.hid (isWord_any w b (some ⟨bw, 0, none⟩) n word h.c0)
  clear h
  rcases h1 : inB who 64 with _ | _
  · rw [h1] at HW
    go_enter Try.func63, Try.ntmps63
    go_wp2_with fail
    with_reducible refine HW.out.mono ?_
    rintro e w1 ⟨rfl, hw⟩
    subst hw
    go_wp2
    go_ret2
    exact ⟨rfl, rfl⟩
  · rw [h1] at hb HW
    have h2 : inB word n = false := by simpa using hb
    rw [h2] at HP
    go_enter Try.func63, Try.ntmps63
    go_wp2_with fail
    with_reducible refine HW.out.mono ?_
    rintro e w1 ⟨rfl, hw⟩
    subst hw
    go_wp2_with fail
    with_reducible refine HP.out.mono ?_
    rintro e w1 ⟨rfl, hw⟩
    subst hw
    go_wp2
    go_ret2
    exact ⟨rfl, rfl⟩
set_option maxHeartbeats 800000 in
theorem swap_ok (h : MachS w b bw n ws clk k ring) (hk : k < 9223372036854775807) (who : Int) (j old new : Nat) (h1 : inB who 64 = true) (hj : j < n) :
    Calls Try.prog 63 #[.pointer (some ⟨b, 0, none⟩), .int .i64 who, .int .i64 (j : Int), .int .u64 (old : Int), .int .u64 (new : Int)] w fun e w' => e = .returned (.tuple #[.bool (decide (ws.getD j 0 = old)), .int .i64 0]) ∧
      MachS w' b bw n (if ws.getD j 0 = old then ws.set j new else ws) clk (k + 1) (put6 ring (k % 64) ⟨who, 2, j, old, new, decide (ws.getD j 0 = old)⟩) ∧ Off [b, bw] w w' := by
  have HW := Lib.hid (isWho_any w who)
  have HP := Lib.hid (isWord_any w b (some ⟨bw, 0, none⟩) n j h.c0)
  have h2 : inB (j : Int) (n : Int) = true := inB_iff.mpr (by omega)
  rw [h1] at HW
  rw [h2] at HP
  have c0 := h.c0
  have hw := h.wat hj
  have hfw := h.wf hj
  have hlt := h.blk.lt
  have hltw := h.wd.lt
  have hne := h.ne
  by_cases e : ws.getD j 0 = old
  · have hd : decide ((old : Int) = (old : Int)) = true := by simp
    rw [if_pos e, decide_eq_true e]
    have HR := Lib.hid (remember_any _ b bw n _ clk k ring (h.setWord hj new) hk ⟨who, 2, j, old, new, true⟩)
    simp only [AccV.cells] at HR
    rw [e] at hw
    clear h h1 h2 e
    go_enter Try.func63, Try.ntmps63
    go_wp2_with fail
    with_reducible refine HW.out.mono ?_
    rintro e w1 ⟨rfl, hw⟩
    subst hw
    go_wp2_with fail
    with_reducible refine HP.out.mono ?_
    rintro e w1 ⟨rfl, hw⟩
    subst hw
    go_wp2_with fail
    with_reducible refine HR.out.mono ?_
    rintro e w1 ⟨rfl, hm, hf⟩
    go_wp2
    go_ret2
    exact ⟨rfl, hm, ((Off.refl [b, bw] w).setCell (by simp) _).trans (hf.mono (by simp))⟩
  · have hd : decide ((ws.getD j 0 : Int) = (old : Int)) = false := decide_eq_false (by omega)
    rw [if_neg e, decide_eq_false e]
    have HR := Lib.hid (remember_any w b bw n ws clk k ring h hk ⟨who, 2, j, old, new, false⟩)
    simp only [AccV.cells] at HR
    clear h h1 h2
    generalize ws.getD j 0 = x at *
    go_enter Try.func63, Try.ntmps63
    go_wp2_with fail
    with_reducible refine HW.out.mono ?_
    rintro e w1 ⟨rfl, hw⟩
    subst hw
    go_wp2_with fail
    with_reducible refine HP.out.mono ?_
    rintro e w1 ⟨rfl, hw⟩
    subst hw
    go_wp2_with fail
    with_reducible refine HR.out.mono ?_
    rintro e w1 ⟨rfl, hm, hf⟩
    go_wp2
    go_ret2
    exact ⟨rfl, hm, hf.mono (by simp)⟩
theorem word_at (h : MachS w b bw n ws clk k ring) (j : Nat) (hj : j < n) :
    Calls Try.prog 62 #[.pointer (some ⟨b, 0, none⟩), .int .i64 (j : Int)] w fun e w' => e = .returned (.tuple #[.int .u64 (ws.getD j 0 : Nat), .int .i64 0]) ∧ w = w' := by
  have HP := Lib.hid (isWord_any w b (some ⟨bw, 0, none⟩) n j h.c0)
  have h2 : inB (j : Int) (n : Int) = true := inB_iff.mpr (by omega)
  rw [h2] at HP
  have c0 := h.c0
  have hw := h.wat hj
  clear h h2
  go_enter Try.func62, Try.ntmps62
  go_wp2_with fail
  with_reducible refine HP.out.mono ?_
  rintro e w1 ⟨rfl, hw⟩
  subst hw
  go_wp2
  go_ret2
  exact ⟨rfl, rfl⟩
end
end Go.Proofs.Ytpjgpiiibgogeaa
