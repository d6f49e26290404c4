/- An Epochs: things, Held, New. -/
import Derived.Test.YtpjgpiiibgogeaaEpC
import Derived.Test.YtpjgpiiibgogeaaEpD
namespace Go.Proofs.Ytpjgpiiibgogeaa
open Go.RowKit
set_option maxRecDepth 100000
set_option linter.unusedVariables false

abbrev TI : TypeId := 3
theorem int_info : (Try.prog.info? TI).map (fun i => (i.zero, i.size, i.bytes)) = some (some (.int .i64 0), 1, 8) := by kernel_rfl
def thI (l : List Int) : List Value := l.map (fun t => .int .i64 t)
def ThE (w : World) (l : List Int) (e : Ending) (w' : World) : Prop :=
  ∃ A c, e = .returned (.slice A l.length c) ∧ OwnC w' w.heap.size TI 1 A l.length c (thI l) ∧ Below w.heap.size w w'
set_option maxHeartbeats 3200000 in
theorem things_any (w : World) (B : Nat) (A : Option Addr) (n c : Nat) (gs : List (Int × Nat)) (h : ArgC w B 2 A n c (GVs gs)) (hB : B ≤ w.heap.size) (hn : n ≤ 4096) :
    Calls Try.prog 61 #[.slice A n c] w (ThE w (gs.map (·.1))) := by
  have hl := h.len
  rw [GVs_len] at hl
  have hll : gs.length = n := by omega
  have hcap := h.cap
  have hle := h.le
  unfold maxLen at hcap
  have HG := Lib.hid h
  have HLL := Lib.hid hll
  clear h hl
  obtain ⟨i0, hi, hz0, hz1, hby⟩ := info_parts int_info
  have hnm : n ≤ maxLen := by unfold maxLen; omega
  have hnb : i0.bytes * n ≤ 281474976710656 := by rw [hby]; omega
  have HEND : Hid ((gs.map (·.1)).length = n) := Lib.hid (by rw [List.length_map, hll])
  unfold ThE
  rw [HEND.out]
  clear hll
  go_enter Try.func61, Try.ntmps61
  go_wp2_with (refine wpList_make_own _ rfl _ _ 35 rfl w.heap.size TI i0 (.int .i64 0) 1 Try.underlying35 hi hz0 hz1 _ _ _ n rfl rfl rfl (by omega) (by omega) (Nat.le_refl _) ?_)
  intro w1 ho1 hg1
  have hb1 : Below w.heap.size w w1 := (Below.refl _ _).grown hg1 (Nat.le_refl _) (fun k hk => by cases hk)
  have HO1 := Lib.hid ho1
  have HB1 := Lib.hid hb1
  clear ho1 hg1 hb1 hi hz0 hz1
  go_wp2
  go_loopw [3, 11] (fun ov iv wr => ∃ (i : Nat) (A2 : Option Addr) (cc : Nat), i ≤ n ∧ iv = .int .i64 (i : Int) ∧ ov = .slice A2 i cc ∧ OwnC wr w.heap.size TI 1 A2 i cc (thI ((gs.map (·.1)).take i)) ∧ Below w.heap.size w wr) (fun _ iv _ => n - (intOf iv).toNat)
  case atStart => exact ⟨0, _, _, Nat.zero_le _, rfl, rfl, HO1.out, HB1.out⟩
  case round =>
    obtain ⟨i, A2, cc, hi, rfl, rfl, hown, hbw⟩ := hrel
    clear HO1 HB1
    rcases Nat.lt_or_ge i n with hlt | hge
    · obtain ⟨g, off, rfl, hgB, hcl⟩ := (HG.out.below (hbw.mono hB)).at_ (by omega)
      have ha := GVs_at gs i (by rw [HLL.out]; exact hlt)
      have c0 := (hcl (i * 2) (by omega)).trans ha.1
      have c1 : wr.cell? ⟨g, off + i * 2 + 1, none⟩ = some (.int .i64 ((gs.getD i (0, 0)).2 : Nat)) := (hcl (i * 2 + 1) (by omega)).trans ha.2
      have hte : thI ((gs.map (·.1)).take (i + 1)) = thI ((gs.map (·.1)).take i) ++ [.int .i64 (gs.getD i (0, 0)).1] := by
        have hil : i < gs.length := by rw [HLL.out]; exact hlt
        simp [thI, List.take_add_one, List.getD_eq_getElem?_getD, hil]
      generalize gs.getD i (0, 0) = y at *
      obtain ⟨yt, ye⟩ := y
      simp only at c0 c1 hte
      have hsz := hbw.size
      have b4 := ((Below.refl wr.heap.size wr).alloc (Nat.le_refl _) (.cells #[.int .i64 yt, .int .i64 (ye : Int)] TG)).alloc (by simp) (.cells #[.int .i64 yt] TI)
      have HO4 := Lib.hid (hown.below b4)
      have HB4 := Lib.hid (hbw.trans (b4.mono hsz))
      have hkt := BlkL.new (wr.alloc (.cells #[.int .i64 yt, .int .i64 (ye : Int)] TG)) [.int .i64 yt] TI
      rw [World.size_alloc] at hkt
      have HKT := Lib.hid hkt
      clear hkt
      have HTE := Lib.hid hte
      have j0 : (0 : Int) ≤ (i : Int) := by omega
      have j1 : (i : Int) < (n : Int) := by omega
      clear hown hbw b4 hcl ha hte
      go_wp2_with (refine wpList_append_row rfl (.tmp 15) (.tmp 18) 35 rfl w.heap.size TI _ 1 8 Try.underlying35 int_info rfl (by omega) A2 i cc _ rfl HO4.out (wr.heap.size + 1) 1 [.int .i64 yt] rfl rfl HKT.out.cell (by simp [Value.oneCell']) (by unfold maxLen; omega) (by omega) (by simp; omega) ?_)
      intro A3 c3 w5 ho5 hb5
      rw [← HTE.out] at ho5
      have HO5 := Lib.hid ho5
      have HB5 := Lib.hid (HB4.out.trans hb5)
      clear ho5 hb5 HO4 HB4 HTE c0 c1
      go_wp2
      go_roundw
      case rel => exact ⟨i + 1, _, _, by omega, by go_num, rfl, HO5.out, HB5.out⟩
      case measure => simp [intOf]; omega
    · obtain rfl : i = n := by omega
      have j1 : ¬ (i : Int) < (i : Int) := by omega
      rw [List.take_of_length_le (by rw [HEND.out]; exact Nat.le_refl _)] at hown
      have HO := Lib.hid hown
      have HB := Lib.hid hbw
      clear hown hbw
      go_wp2
      go_ret
      exact ⟨_, _, rfl, HO.out, HB.out⟩
section
variable {w : World} {B x b bw wb W : Nat} {X : List Nat} {k : Nat} {s : EpV} {fv : Nat → Value} {rA : Nat → Option Addr} {rc : Nat → Nat} {ring : List Value}
theorem eheld_any (h : EpR w B x b bw wb W X k s fv rA rc ring) (i : Nat) (hi : i < W) (hL : (s.wk i).gs.length ≤ 4096) : Calls Try.prog 21 #[PV x, IV i] w (ThE w ((s.wk i).gs.map (·.1))) := by
  have HW := Lib.hid (isW_any h (i : Int))
  rw [show inB (i : Int) W = true from inB_iff.mpr (by omega)] at HW
  have HT := Lib.hid (things_any w w.heap.size (rA i) (s.wk i).gs.length (rc i) (s.wk i).gs (h.row i hi).arg (Nat.le_refl _) hL)
  have c1 := h.c1
  have k2 := h.k2 hi
  have j0 : (0 : Int) ≤ (i : Int) := by omega
  have j1 : (i : Int) < (W : Int) := by omega
  clear h
  generalize (s.wk i).gs = gs at *
  generalize rA i = A at *
  generalize rc i = c at *
  go_enter Try.func21, Try.ntmps21
  go_wp2_with fail
  with_reducible refine HW.out.mono ?_
  rintro e w1 ⟨rfl, hw⟩
  subst hw
  go_wp2_with fail
  with_reducible refine HT.out.mono ?_
  rintro e w1 ⟨A', c', rfl, ho, hb⟩
  have HX := Lib.hid (And.intro ho hb)
  clear ho hb
  go_wp2
  go_ret
  refine ⟨A', c', ?_, ?_, HX.out.2⟩
  · first | rfl | (simp; done)
  · first | exact HX.out.1 | simpa using HX.out.1
theorem eheld_no (w : World) (p : Value) (who : Int) (HW : Hid (Calls Try.prog 53 #[p, .int .i64 who] w fun e w' => e = .returned (.bool false) ∧ w = w')) : Calls Try.prog 21 #[p, .int .i64 who] w fun e w' => e = .returned (.slice none 0 0) ∧ w = w' := by
  go_enter Try.func21, Try.ntmps21
  go_wp2_with fail
  with_reducible refine HW.out.mono ?_
  rintro e w1 ⟨rfl, hw⟩
  subst hw
  go_wp2
  go_ret
  exact ⟨rfl, rfl⟩
end
end Go.Proofs.Ytpjgpiiibgogeaa
