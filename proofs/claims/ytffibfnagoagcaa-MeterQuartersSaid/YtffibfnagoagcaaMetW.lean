/- Contracts: the document's Same, the law's same and of; the law MeterSmooths behind awake. -/
import Derived.Test.YtffibfnagoagcaaMetT
namespace Go.Proofs.Ytffibfnagoagcaa
open Go.RowKit
set_option maxRecDepth 100000
set_option linter.unusedVariables false

theorem of8_any (w : World) (p : Nat) : Calls Try.prog 17 #[.int .u64 (p : Int)] w fun e w' => e = .returned (.float .f64 p) ∧ w = w' := by
  go_enter Try.func17, Try.ntmps17
  go_wp2
  rw [run_callFunc_extern Try.func41 (by kernel_rfl) (by kernel_rfl) (by kernel_rfl) (e := Extern.MathFloatBits.float64frombits) (by kernel_rfl), run_f64from]
  simp only [Result.andThen]
  rw [Oper.upon_value]
  go_wp2
  go_ret
  exact ⟨rfl, rfl⟩
theorem same_yes (w : World) (a b : Nat) (ha : a ≤ 18446744073709551615) (hb : b ≤ 18446744073709551615) (h : canB a = canB b) : Calls Try.prog 19 #[.float .f64 a, .float .f64 b] w fun e w' => e = .returned (.bool true) ∧ w = w' := by
  have := same3_any w a b ha hb
  rw [same_can h] at this
  exact this

set_option maxHeartbeats 1600000 in
theorem same8_any (w : World) (a b : MV) (ha : a.Ok) (hb : b.Ok) (h : a.can = b.can) : Calls Try.prog 33 #[a.val, b.val] w (ValEnd w (.bool true)) := by
  obtain ⟨n, bad, su, lo, lw, hi, me, sp⟩ := a
  obtain ⟨n', bad', su', lo', lw', hi', me', sp'⟩ := b
  simp only [MV.can, MV.mk.injEq] at h
  obtain ⟨rfl, rfl, h1, h2, h3, h4, h5, h6⟩ := h
  have H1 := fun w => same_yes w su su' ha.sum hb.sum h1
  have H2 := fun w => same_yes w lo lo' ha.lost hb.lost h2
  have H3 := fun w => same_yes w lw lw' ha.low hb.low h3
  have H4 := fun w => same_yes w hi hi' ha.high hb.high h4
  have H5 := fun w => same_yes w me me' ha.mean hb.mean h5
  have H6 := fun w => same_yes w sp sp' ha.spr hb.spr h6
  clear ha hb h1 h2 h3 h4 h5 h6
  simp only [MV.val]
  go_enter Try.func33, Try.ntmps33
  go_wp2_with fail
  with_reducible refine (H1 _).mono ?_
  rintro e w1 ⟨rfl, rfl⟩
  go_wp2_with fail
  with_reducible refine (H2 _).mono ?_
  rintro e w1 ⟨rfl, rfl⟩
  go_wp2_with fail
  with_reducible refine (H3 _).mono ?_
  rintro e w1 ⟨rfl, rfl⟩
  go_wp2_with fail
  with_reducible refine (H4 _).mono ?_
  rintro e w1 ⟨rfl, rfl⟩
  go_wp2_with fail
  with_reducible refine (H5 _).mono ?_
  rintro e w1 ⟨rfl, rfl⟩
  go_wp2_with fail
  with_reducible refine (H6 _).mono ?_
  rintro e w1 ⟨rfl, rfl⟩
  go_wp2
  go_ret
  refine ⟨rfl, ?_⟩
  repeat' first
    | with_reducible exact Below.refl _ _
    | with_reducible refine Below.setCell ?_ (by simp) _
    | with_reducible refine Below.alloc ?_ (by simp) _
    | with_reducible refine below_drewN ?_ _
    | with_reducible refine Below.drew ?_

theorem same8l_any (w : World) (a b : MV) (ha : a.Ok) (hb : b.Ok) (h : a.can = b.can) : Calls Try.prog 12 #[a.val, b.val] w (ValEnd w (.bool true)) := by
  have HS := fun w => same8_any w a b ha hb h
  obtain ⟨n, bad, su, lo, lw, hi, me, sp⟩ := a
  obtain ⟨n', bad', su', lo', lw', hi', me', sp'⟩ := b
  simp only [MV.val] at *
  clear ha hb h
  go_enter Try.func12, Try.ntmps12
  go_wp2_with fail
  with_reducible refine (HS _).mono ?_
  rintro e w1 ⟨rfl, hb⟩
  go_wp2
  go_ret
  refine ⟨rfl, ?_⟩
  exact (((Below.refl _ _).alloc (by simp) _).alloc (by simp) _).trans (hb.mono (by simp; omega))

set_option maxHeartbeats 1600000 in
theorem meterSmooths_g (l x a : Nat) (w : World) (hl : l ≤ 18446744073709551615) (hx : x ≤ 18446744073709551615) (ha : a ≤ 18446744073709551615)
    (HAW : ∀ w, Calls Try.prog 11 #[] w (ValEnd w (.bool true))) :
    Calls Try.prog 6 #[.int .u64 (l : Int), .int .u64 (x : Int), .int .u64 (a : Int)] w (ValEnd w (.bool true)) := by
  have HL := fun w => of8_any w l
  have HX := fun w => of8_any w x
  have HA := fun w => of8_any w a
  obtain ⟨HS, HD⟩ := smooth_both l x a hl hx ha
  generalize smV l x a = c at *
  generalize smE a = er at *
  go_enter Try.func6, Try.ntmps6
  go_wp2_with fail
  with_reducible refine (HL _).mono ?_
  rintro e w1 ⟨rfl, rfl⟩
  go_wp2_with fail
  with_reducible refine (HX _).mono ?_
  rintro e w1 ⟨rfl, rfl⟩
  go_wp2_with fail
  with_reducible refine (HA _).mono ?_
  rintro e w1 ⟨rfl, rfl⟩
  go_wp2_with fail
  with_reducible refine (HS _).mono ?_
  rintro e w2 ⟨y, rfl, ly, cy, hb2⟩
  go_wp2_with fail
  with_reducible refine (HL _).mono ?_
  rintro e w1 ⟨rfl, rfl⟩
  go_wp2_with fail
  with_reducible refine (HX _).mono ?_
  rintro e w1 ⟨rfl, rfl⟩
  go_wp2_with fail
  with_reducible refine (HA _).mono ?_
  rintro e w1 ⟨rfl, rfl⟩
  go_wp2_with fail
  with_reducible refine (HD _).mono ?_
  rintro e w3 ⟨z, rfl, lz, cz, hb3⟩
  have HY := fun w => same_yes w y z ly lz (cy.trans cz.symm)
  have HB3 := Lib.hid (hb2.trans (hb3.mono hb2.size))
  clear hb2 hb3 cy cz
  go_wp2_with fail
  with_reducible refine (HAW _).mono ?_
  rintro e w4 ⟨rfl, hb4⟩
  have HB4 := Lib.hid (HB3.out.trans (hb4.mono HB3.out.size))
  clear hb4
  go_wp2_with fail
  with_reducible refine (HY _).mono ?_
  rintro e w5 ⟨rfl, rfl⟩
  go_wp2
  go_ret
  exact ⟨rfl, HB4.out⟩
end Go.Proofs.Ytffibfnagoagcaa
