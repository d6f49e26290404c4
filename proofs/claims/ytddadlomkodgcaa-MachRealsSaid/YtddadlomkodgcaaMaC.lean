/- Contracts: Load, Swap, Clock, Tick, Word, Count of a Mach. -/
import Derived.Test.YtddadlomkodgcaaMaB
import Derived.Test.YtddadlomkodgcaaSums
namespace Go.Proofs.Ytddadlomkodgcaa
open Go.RowKit
set_option maxRecDepth 100000
set_option linter.unusedVariables false

section
variable (w : World) (b bw n : Nat) (ws : List Nat) (clk : Int) (k : Nat) (ring : List Value)
theorem load_bad (h : MachS w b bw n ws clk k ring) (who word : Int) (hb : (inB who 64 && inB word n) = false) :
    Calls Try.prog 16 #[.pointer (some ⟨b, 0, none⟩), .int .i64 who, .int .i64 word] w fun e w' => e = .returned (.tuple #[.int .u64 0, .int .i64 1]) ∧ w = w' := by
  have HW := Lib.hid (isWho_any w who)
  have HP := Lib.hid (isWord_any w b (some ⟨bw, 0, none⟩) n word h.c0)
  clear h
  rcases h1 : inB who 64 with _ | _
  · rw [h1] at HW
    go_enter Try.func16, Try.ntmps16
    go_wp2_with fail
    with_reducible refine HW.out.mono ?_
    rintro e w1 ⟨rfl, hw⟩
    subst hw
    go_wp2
    go_ret2
    exact ⟨rfl, rfl⟩
  · rw [h1] at hb HW
    have h2 : inB word n = false := by simpa using hb
    rw [h2] at HP
    go_enter Try.func16, Try.ntmps16
    go_wp2_with fail
    with_reducible refine HW.out.mono ?_
    rintro e w1 ⟨rfl, hw⟩
    subst hw
    go_wp2_with fail
    with_reducible refine HP.out.mono ?_
    rintro e w1 ⟨rfl, hw⟩
    subst hw
    go_wp2
    go_ret2
    exact ⟨rfl, rfl⟩
set_option maxHeartbeats 800000 in
theorem load_ok (h : MachS w b bw n ws clk k ring) (hk : k < 9223372036854775807) (who : Int) (j : Nat) (h1 : inB who 64 = true) (hj : j < n) :
    Calls Try.prog 16 #[.pointer (some ⟨b, 0, none⟩), .int .i64 who, .int .i64 (j : Int)] w fun e w' => e = .returned (.tuple #[.int .u64 (ws.getD j 0 : Nat), .int .i64 0]) ∧
      MachS w' b bw n ws clk (k + 1) (put6 ring (k % 64) ⟨who, 1, j, ws.getD j 0, 0, true⟩) ∧ Off [b] w w' := by
  have HW := Lib.hid (isWho_any w who)
  have HP := Lib.hid (isWord_any w b (some ⟨bw, 0, none⟩) n j h.c0)
  have h2 : inB (j : Int) (n : Int) = true := inB_iff.mpr (by omega)
  rw [h1] at HW
  rw [h2] at HP
  have c0 := h.c0
  have hw := h.wat hj
  have hlt := h.blk.lt
  have hltw := h.wd.lt
  have HR := Lib.hid (remember_any w b bw n ws clk k ring h hk ⟨who, 1, j, ws.getD j 0, 0, true⟩)
  simp only [AccV.cells] at HR
  clear h h1 h2
  generalize hx : ws.getD j 0 = x at *
  go_enter Try.func16, Try.ntmps16
  go_wp2_with fail
  with_reducible refine HW.out.mono ?_
  rintro e w1 ⟨rfl, hw⟩
  subst hw
  go_wp2_with fail
  with_reducible refine HP.out.mono ?_
  rintro e w1 ⟨rfl, hw⟩
  subst hw
  go_wp2_with fail
  with_reducible refine HR.out.mono ?_
  rintro e w1 ⟨rfl, hm, hf⟩
  go_wp2
  go_ret2
  exact ⟨rfl, hm, hf⟩
theorem swap_bad (h : MachS w b bw n ws clk k ring) (who word old new : Int) (hb : (inB who 64 && inB word n) = false) :
    Calls Try.prog 17 #[.pointer (some ⟨b, 0, none⟩), .int .i64 who, .int .i64 word, .int .u64 old, .int .u64 new] w fun e w' => e = .returned (.tuple #[.bool false, .int .i64 1]) ∧ w = w' := by
  have HW := Lib.hid (isWho_any w who)
  have HP := Lib.hid (isWord_any w b (some ⟨bw, 0, none⟩) n word h.c0)
  clear h
  rcases h1 : inB who 64 with _ | _
  · rw [h1] at HW
    go_enter Try.func17, Try.ntmps17
    go_wp2_with fail
    with_reducible refine HW.out.mono ?_
    rintro e w1 ⟨rfl, hw⟩
    subst hw
    go_wp2
    go_ret2
    exact ⟨rfl, rfl⟩
  · rw [h1] at hb HW
    have h2 : inB word n = false := by simpa using hb
    rw [h2] at HP
    go_enter Try.func17, Try.ntmps17
    go_wp2_with fail
    with_reducible refine HW.out.mono ?_
    rintro e w1 ⟨rfl, hw⟩
    subst hw
    go_wp2_with fail
    with_reducible refine HP.out.mono ?_
    rintro e w1 ⟨rfl, hw⟩
    subst hw
    go_wp2
    go_ret2
    exact ⟨rfl, rfl⟩
set_option maxHeartbeats 800000 in
theorem swap_ok (h : MachS w b bw n ws clk k ring) (hk : k < 9223372036854775807) (who : Int) (j old new : Nat) (h1 : inB who 64 = true) (hj : j < n) :
    Calls Try.prog 17 #[.pointer (some ⟨b, 0, none⟩), .int .i64 who, .int .i64 (j : Int), .int .u64 (old : Int), .int .u64 (new : Int)] w fun e w' => e = .returned (.tuple #[.bool (decide (ws.getD j 0 = old)), .int .i64 0]) ∧
      MachS w' b bw n (if ws.getD j 0 = old then ws.set j new else ws) clk (k + 1) (put6 ring (k % 64) ⟨who, 2, j, old, new, decide (ws.getD j 0 = old)⟩) ∧ Off [b, bw] w w' := by
  have HW := Lib.hid (isWho_any w who)
  have HP := Lib.hid (isWord_any w b (some ⟨bw, 0, none⟩) n j h.c0)
  have h2 : inB (j : Int) (n : Int) = true := inB_iff.mpr (by omega)
  rw [h1] at HW
  rw [h2] at HP
  have c0 := h.c0
  have hw := h.wat hj
  have hfw := h.wf hj
  have hlt := h.blk.lt
  have hltw := h.wd.lt
  have hne := h.ne
  by_cases e : ws.getD j 0 = old
  · have hd : decide ((old : Int) = (old : Int)) = true := by simp
    rw [if_pos e, decide_eq_true e]
    have HR := Lib.hid (remember_any _ b bw n _ clk k ring (h.setWord hj new) hk ⟨who, 2, j, old, new, true⟩)
    simp only [AccV.cells] at HR
    rw [e] at hw
    clear h h1 h2 e
    go_enter Try.func17, Try.ntmps17
    go_wp2_with fail
    with_reducible refine HW.out.mono ?_
    rintro e w1 ⟨rfl, hw⟩
    subst hw
    go_wp2_with fail
    with_reducible refine HP.out.mono ?_
    rintro e w1 ⟨rfl, hw⟩
    subst hw
    go_wp2_with fail
    with_reducible refine HR.out.mono ?_
    rintro e w1 ⟨rfl, hm, hf⟩
    go_wp2
    go_ret2
    exact ⟨rfl, hm, ((Off.refl [b, bw] w).setCell (by simp) _).trans (hf.mono (by simp))⟩
  · have hd : decide ((ws.getD j 0 : Int) = (old : Int)) = false := decide_eq_false (by omega)
    rw [if_neg e, decide_eq_false e]
    have HR := Lib.hid (remember_any w b bw n ws clk k ring h hk ⟨who, 2, j, old, new, false⟩)
    simp only [AccV.cells] at HR
    clear h h1 h2
    generalize ws.getD j 0 = x at *
    go_enter Try.func17, Try.ntmps17
    go_wp2_with fail
    with_reducible refine HW.out.mono ?_
    rintro e w1 ⟨rfl, hw⟩
    subst hw
    go_wp2_with fail
    with_reducible refine HP.out.mono ?_
    rintro e w1 ⟨rfl, hw⟩
    subst hw
    go_wp2_with fail
    with_reducible refine HR.out.mono ?_
    rintro e w1 ⟨rfl, hm, hf⟩
    go_wp2
    go_ret2
    exact ⟨rfl, hm, hf.mono (by simp)⟩
theorem clock_bad (p : Value) (who : Int) (h1 : inB who 64 = false) :
    Calls Try.prog 18 #[p, .int .i64 who] w fun e w' => e = .returned (.tuple #[.int .i64 0, .int .i64 1]) ∧ w = w' := by
  have HW := Lib.hid (isWho_any w who)
  rw [h1] at HW
  clear h1
  go_enter Try.func18, Try.ntmps18
  go_wp2_with fail
  with_reducible refine HW.out.mono ?_
  rintro e w1 ⟨rfl, hw⟩
  subst hw
  go_wp2
  go_ret2
  exact ⟨rfl, rfl⟩
set_option maxHeartbeats 800000 in
theorem clock_ok (h : MachS w b bw n ws clk k ring) (hk : k < 9223372036854775807) (who : Int) (h1 : inB who 64 = true) (hc : 0 ≤ clk) (hc2 : clk ≤ 4611686018427387903) :
    Calls Try.prog 18 #[.pointer (some ⟨b, 0, none⟩), .int .i64 who] w fun e w' => e = .returned (.tuple #[.int .i64 clk, .int .i64 0]) ∧
      MachS w' b bw n ws clk (k + 1) (put6 ring (k % 64) ⟨who, 3, 0, clk, 0, true⟩) ∧ Off [b] w w' := by
  have HW := Lib.hid (isWho_any w who)
  rw [h1] at HW
  have c1 := h.c1
  have hlt := h.blk.lt
  have HM := Lib.hid h
  have HR := Lib.hid (remember_any w b bw n ws clk k ring h hk ⟨who, 3, 0, clk, 0, true⟩)
  simp only [AccV.cells] at HR
  clear h h1
  go_enter Try.func18, Try.ntmps18
  go_wp2_with fail
  with_reducible refine HW.out.mono ?_
  rintro e w1 ⟨rfl, hw⟩
  subst hw
  go_wp2_with fail
  with_reducible refine HR.out.mono ?_
  rintro e w1 ⟨rfl, hm, hf⟩
  have d1 := hm.c1
  go_wp2
  go_ret2
  exact ⟨rfl, hm, hf⟩
theorem tick_ok (h : MachS w b bw n ws clk k ring) (t : Int) (hc : 0 ≤ clk ∧ clk ≤ 4611686018427387903) (ht : 0 ≤ t ∧ t ≤ 4611686018427387903) :
    Calls Try.prog 19 #[.pointer (some ⟨b, 0, none⟩), .int .i64 t] w fun e w' => e = .returned (.tuple #[.int .i64 (clampV (clk + t)), .int .i64 0]) ∧
      MachS w' b bw n ws (clampV (clk + t)) k ring ∧ Off [b] w w' := by
  have HF := Lib.hid (tform_any w t)
  rw [isTick_iff.mpr ht] at HF
  have HA := Lib.hid (tadd_ok w clk t hc ht)
  have c1 := h.c1
  have hlt := h.blk.lt
  have hf1 := h.f (i := 1) (by omega)
  have HM := Lib.hid h
  clear h
  go_enter Try.func19, Try.ntmps19
  go_wp2_with fail
  with_reducible refine HF.out.mono ?_
  rintro e w1 ⟨rfl, hw⟩
  subst hw
  go_wp2_with fail
  with_reducible refine HA.out.mono ?_
  rintro e w1 ⟨rfl, hw⟩
  subst hw
  go_wp2
  go_ret2
  exact ⟨rfl, HM.out.setClk _, (Off.refl [b] w).setCell (by simp) _⟩
theorem word_at (h : MachS w b bw n ws clk k ring) (j : Nat) (hj : j < n) :
    Calls Try.prog 22 #[.pointer (some ⟨b, 0, none⟩), .int .i64 (j : Int)] w fun e w' => e = .returned (.tuple #[.int .u64 (ws.getD j 0 : Nat), .int .i64 0]) ∧ w = w' := by
  have HP := Lib.hid (isWord_any w b (some ⟨bw, 0, none⟩) n j h.c0)
  have h2 : inB (j : Int) (n : Int) = true := inB_iff.mpr (by omega)
  rw [h2] at HP
  have c0 := h.c0
  have hw := h.wat hj
  clear h h2
  go_enter Try.func22, Try.ntmps22
  go_wp2_with fail
  with_reducible refine HP.out.mono ?_
  rintro e w1 ⟨rfl, hw⟩
  subst hw
  go_wp2
  go_ret2
  exact ⟨rfl, rfl⟩
theorem mcount_any (h : MachS w b bw n ws clk k ring) :
    Calls Try.prog 15 #[.pointer (some ⟨b, 0, none⟩)] w fun e w' => e = .returned (.int .i64 (k : Int)) ∧ w = w' := by
  have c2 := h.c2
  clear h
  go_enter Try.func15, Try.ntmps15
  go_wp2
  go_ret
  exact ⟨rfl, rfl⟩
end
end Go.Proofs.Ytddadlomkodgcaa
