/- The law GcraBounds: its walk, whole. -/
import Derived.Test.YtpeijhlheencnaaBnd
namespace Go.Proofs.Ytpeijhlheencnaa
open Go.RowKit
set_option maxRecDepth 100000
set_option linter.unusedVariables false

theorem gcraBounds_walk (TI TauI tatI : Int) (A : Option Addr) (n c : Nat) (l : List (Int × Int)) (frI toI : Int) (w : World) (h : ArgC w w.heap.size 2 A n c (F2 l)) (hbd : ∀ x ∈ l, x.1 ≤ 9223372036854775807 ∧ x.2 ≤ 9223372036854775807) (hc : c ≤ 8796093021952)
    (b0 : TI ≤ 9223372036854775807) (b1 : TauI ≤ 9223372036854775807) (b2 : tatI ≤ 9223372036854775807) (b3 : frI ≤ 9223372036854775807) (b4 : toI ≤ 9223372036854775807) :
    Calls Try.prog 4 #[.agg #[.int .i64 TI, .int .i64 TauI], .int .i64 tatI, .slice A n c, .int .i64 frI, .int .i64 toI] w (ValEnd w (.bool true)) := by
  have hn : n ≤ 8796093021952 := Nat.le_trans h.le hc
  have HC := fun w => clamped_any w TI TauI tatI frI toI b0 b1 b2 b3 b4
  have c0 := clampV_bd TI
  have c1 := clampV_bd TauI
  have c2 := clampV_bd tatI
  have c3 := clampV_bd frI
  have c4 := clampV_bd toI
  obtain ⟨T, hT⟩ := Int.eq_ofNat_of_zero_le (show 0 ≤ max (clampV TI) 1 by omega)
  obtain ⟨Tau, hU⟩ := Int.eq_ofNat_of_zero_le c1.1
  obtain ⟨tat, ht⟩ := Int.eq_ofNat_of_zero_le c2.1
  obtain ⟨f, hf⟩ := Int.eq_ofNat_of_zero_le c3.1
  obtain ⟨t, htt⟩ := Int.eq_ofNat_of_zero_le c4.1
  rw [hT, hU, ht, hf, htt] at HC
  rcases Nat.lt_or_ge t f with ho | ho
  · exact gcraBounds_b TI TauI tatI frI toI A n c l w h hn hbd T Tau tat t f (by omega) (by omega) (by omega) (by omega) ho (by omega) (Lib.hid HC)
  · exact gcraBounds_a TI TauI tatI frI toI A n c l w h hn hbd T Tau tat f t (by omega) (by omega) (by omega) (by omega) ho (by omega) (Lib.hid HC)
end Go.Proofs.Ytpeijhlheencnaa
