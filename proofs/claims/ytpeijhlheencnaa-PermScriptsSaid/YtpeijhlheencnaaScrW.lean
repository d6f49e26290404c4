/- The law PermScripts: its walk, whatever the number of permits. -/
import Derived.Test.YtpeijhlheencnaaScr
namespace Go.Proofs.Ytpeijhlheencnaa
open Go.RowKit
set_option maxRecDepth 100000
set_option linter.unusedVariables false

theorem permScripts_bad (p : Int) (A : Option Addr) (n c : Nat) (w : World)
    (HAW : Hid (∀ w, Calls Try.prog 15 #[] w (ValEnd w (.bool true))))
    (HNW : Hid (∀ w, Calls Try.prog 16 #[.int .i64 p] w (ValEnd w (.tuple #[.agg #[.int .i64 0, .slice none 0 0], .int .i64 1])))) :
    Calls Try.prog 5 #[.int .i64 p, .slice A n c] w (ValEnd w (.bool true)) := by
  go_enter Try.func5, Try.ntmps5
  go_wp2_with fail
  with_reducible refine (HAW.out _).mono ?_
  rintro e w1 ⟨rfl, hb⟩
  have HB1 := Lib.hid hb
  clear hb
  go_wp2_with fail
  with_reducible refine (HNW.out _).mono ?_
  rintro e w2 ⟨rfl, hb⟩
  have hz1 := HB1.out.size
  have HB2 := Lib.hid (HB1.out.trans (hb.mono hz1))
  have hz2 := HB2.out.size
  clear hb
  go_wp2
  go_ret
  exact ⟨rfl, HB2.out.alloc hz2 _⟩
theorem permScripts_walk (p : Int) (A : Option Addr) (n c : Nat) (xs : List Int) (w : World) (h : ArgI w w.heap.size A n c xs) (hbx : ∀ v ∈ xs, -9223372036854775808 ≤ v ∧ v ≤ 9223372036854775807) :
    Calls Try.prog 5 #[.int .i64 p, .slice A n c] w (ValEnd w (.bool true)) := by
  by_cases hp : 1 ≤ p ∧ p ≤ 64
  · refine permScripts_good p A n c xs w h hp.1 hp.2 hbx (Lib.hid awake6_any) (Lib.hid fun w => ?_)
    have := permNew_any w p
    rw [if_pos hp] at this
    exact this
  · refine permScripts_bad p A n c w (Lib.hid awake6_any) (Lib.hid fun w => ?_)
    have := permNew_any w p
    rw [if_neg hp] at this
    exact this
end Go.Proofs.Ytpeijhlheencnaa
