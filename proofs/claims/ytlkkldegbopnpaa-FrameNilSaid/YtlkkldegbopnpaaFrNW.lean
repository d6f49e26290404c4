/- The law FrameNil: its walk. -/
import Derived.Test.YtlkkldegbopnpaaFrI
namespace Go.Proofs.Ytlkkldegbopnpaa
open Go.RowKit
set_option maxRecDepth 100000
set_option linter.unusedVariables false
set_option maxHeartbeats 800000 in
theorem frameNil_walk (A : Option Addr) (n c : Nat) (zs : List Nat) (w : World) (h : Arg w w.heap.size A n c zs) (hsz : c ≤ 140737488351232) :
    Calls Try.prog 8 #[.slice A n c] w fun e w' => e = .returned (.bool true) ∧ Below w.heap.size w w' := by
  have HF := Lib.hid (feed_nil w (.slice A n c))
  clear h hsz
  go_enter Try.func8, Try.ntmps8
  go_wp2_with (with_reducible refine (HF.out).mono ?_)
  rintro e w1 ⟨rfl, hb1⟩
  have HB1 := Lib.hid hb1
  clear hb1
  go_wp2_with (with_reducible refine (fend_nil w1).mono ?_)
  rintro e w2 ⟨rfl, rfl⟩
  go_wp2_with (with_reducible refine (awake20_any w1).mono ?_)
  rintro e w2 ⟨rfl, hb2⟩
  have HB2 := Lib.hid (HB1.out.trans (hb2.mono HB1.out.size))
  clear hb2
  go_wp2_with (with_reducible refine (fwait_nil w2).mono ?_)
  rintro e w3 ⟨rfl, rfl⟩
  go_wp2
  go_ret
  exact ⟨rfl, HB2.out⟩
end Go.Proofs.Ytlkkldegbopnpaa
