/- Contract: slices.SortFunc with real.Order, of few floats. -/
import Derived.Test.YtffibfnagoagcaaMetR
import Derived.Test.YtffibfnagoagcaaSort
namespace Go.Proofs.Ytffibfnagoagcaa
open Go.RowKit Go.Shelf Go.Sort
set_option maxRecDepth 100000
set_option linter.unusedVariables false

abbrev F64 := Fin 18446744073709551616
def encF (b : F64) : Value := .float .f64 b.val
def cfF (x y : F64) : Int := ordB x.val y.val
theorem ordB_neg (a b : Nat) : (ordB a b < 0) ↔ idxB a < idxB b := by
  unfold ordB
  split
  · constructor <;> intro _ <;> omega
  · split <;> constructor <;> intro _ <;> omega
theorem swoF : SWO (ltOf cfF) := by
  have k : ∀ x y : F64, ltOf cfF x y = decide (idxB x.val < idxB y.val) := fun x y => decide_eq_decide.2 (ordB_neg _ _)
  refine ⟨fun x => ?_, fun x y z h1 h2 => ?_, fun x y z h1 h2 => ?_⟩
  · rw [k]; exact decide_eq_false (by omega)
  · rw [k] at *
    have := of_decide_eq_true h1
    have := of_decide_eq_true h2
    exact decide_eq_true (by omega)
  · rw [k] at *
    have := of_decide_eq_false h1
    have := of_decide_eq_false h2
    exact decide_eq_false (by omega)
theorem sort_small (w : World) (blk off cap : Nat) (d : Array F64) (hH : Holds encF w blk off d) (h12 : d.size ≤ 12) :
    Calls Try.prog 54 #[.slice (some ⟨blk, off, none⟩) d.size cap, .func (.func 55) #[] #[]] w fun e w' => e = .returned (.tuple #[]) ∧ ∃ d' n, PermIn 0 d.size d d' ∧ SortedIn (ltOf cfF) 0 d.size d' ∧ w' = (putRow encF w blk off d').drewN n := by
  have eg : ∀ args w, (callFunc 55 args).run Try.prog w = .ok (.enter 55 args) w := enters_of Try.func55 (by kernel_rfl) rfl
  refine Try.slices_SortFunc_small_sorted encF (fun _ => rfl) cfF swoF 55 #[] blk off cap d w eg ?_ hH h12 ?_
  · intro m os dk hdk x y
    refine (orderP_any _ x.val y.val (by omega) (by omega)).mono ?_
    rintro e w' ⟨rfl, rfl⟩
    exact ⟨rfl, 0, rfl⟩
  · intro n W hn
    refine (Try.bits_Len n W (by omega) (by omega)).mono ?_
    rintro e w' ⟨rfl, rfl⟩
    exact ⟨⟨_, rfl⟩, rfl⟩
end Go.Proofs.Ytffibfnagoagcaa
