/- Contracts: Smooth, the program's and the document's. -/
import Derived.Test.YtffibfnagoagcaaMetO
import Derived.Outline
namespace Go.Proofs.Ytffibfnagoagcaa
open Go.RowKit
set_option maxRecDepth 100000
set_option linter.unusedVariables false

theorem below_drewN0 (w : World) (n : Nat) : Below w.heap.size w (w.drewN n) := below_drewN (Below.refl _ _) n
def FE (w : World) (c : Nat) (er : Int) (e : Ending) (w' : World) : Prop := ∃ v, e = .returned (.tuple #[.float .f64 v, .int .i64 er]) ∧ v ≤ 18446744073709551615 ∧ canB v = c ∧ Below w.heap.size w w'

theorem smooth_1 (w : World) (l x a : Nat) (hl : l ≤ 18446744073709551615) (hx : x ≤ 18446744073709551615) (ha : a ≤ 18446744073709551615)
    (na : nanB a = true) :
    Calls Try.prog 27 #[.float .f64 l, .float .f64 x, .float .f64 a] w (FE w 0 4) := by
  have NA := isNaN_any w a ha
  have NX := isNaN_any w x hx
  have NL := isNaN_any w l hl
  rw [na] at *
  go_enter Try.func27, Try.ntmps27
  go_wp2_with fail
  with_reducible refine (NA).mono ?_
  rintro e w1 ⟨rfl, rfl⟩
  go_wp2
  go_ret2
  exact ⟨_, rfl, by omega, by first | rfl | decide, Below.refl _ _⟩


theorem smooth_2eq (w : World) (l x a : Nat) (hl : l ≤ 18446744073709551615) (hx : x ≤ 18446744073709551615) (ha : a ≤ 18446744073709551615)
    (na : nanB a = false)
    (h0 : FloatKind.f64.format.order a 0 = some .eq) :
    Calls Try.prog 27 #[.float .f64 l, .float .f64 x, .float .f64 a] w (FE w 0 5) := by
  have NA := isNaN_any w a ha
  have NX := isNaN_any w x hx
  have NL := isNaN_any w l hl
  rw [na] at *
  go_enter Try.func27, Try.ntmps27
  go_wp2_with fail
  with_reducible refine (NA).mono ?_
  rintro e w1 ⟨rfl, rfl⟩
  go_wp2
  go_ret2
  exact ⟨_, rfl, by omega, by first | rfl | decide, Below.refl _ _⟩


theorem smooth_2lt (w : World) (l x a : Nat) (hl : l ≤ 18446744073709551615) (hx : x ≤ 18446744073709551615) (ha : a ≤ 18446744073709551615)
    (na : nanB a = false)
    (h0 : FloatKind.f64.format.order a 0 = some .lt) :
    Calls Try.prog 27 #[.float .f64 l, .float .f64 x, .float .f64 a] w (FE w 0 5) := by
  have NA := isNaN_any w a ha
  have NX := isNaN_any w x hx
  have NL := isNaN_any w l hl
  rw [na] at *
  go_enter Try.func27, Try.ntmps27
  go_wp2_with fail
  with_reducible refine (NA).mono ?_
  rintro e w1 ⟨rfl, rfl⟩
  go_wp2
  go_ret2
  exact ⟨_, rfl, by omega, by first | rfl | decide, Below.refl _ _⟩


theorem smooth_3 (w : World) (l x a : Nat) (hl : l ≤ 18446744073709551615) (hx : x ≤ 18446744073709551615) (ha : a ≤ 18446744073709551615)
    (na : nanB a = false)
    (h0 : FloatKind.f64.format.order a 0 = some .gt)
    (h1 : FloatKind.f64.format.order a 4607182418800017408 = some .gt) :
    Calls Try.prog 27 #[.float .f64 l, .float .f64 x, .float .f64 a] w (FE w 0 5) := by
  have NA := isNaN_any w a ha
  have NX := isNaN_any w x hx
  have NL := isNaN_any w l hl
  rw [na] at *
  go_enter Try.func27, Try.ntmps27
  go_wp2_with fail
  with_reducible refine (NA).mono ?_
  rintro e w1 ⟨rfl, rfl⟩
  go_wp2
  go_ret2
  exact ⟨_, rfl, by omega, by first | rfl | decide, Below.refl _ _⟩


theorem smooth_4eq (w : World) (l x a : Nat) (hl : l ≤ 18446744073709551615) (hx : x ≤ 18446744073709551615) (ha : a ≤ 18446744073709551615)
    (na : nanB a = false)
    (h0 : FloatKind.f64.format.order a 0 = some .gt)
    (h1 : FloatKind.f64.format.order a 4607182418800017408 = some .eq)
    (nx : nanB x = true) :
    Calls Try.prog 27 #[.float .f64 l, .float .f64 x, .float .f64 a] w (FE w (canB l) 0) := by
  have NA := isNaN_any w a ha
  have NX := isNaN_any w x hx
  have NL := isNaN_any w l hl
  rw [na, nx] at *
  go_enter Try.func27, Try.ntmps27
  go_wp2_with fail
  with_reducible refine (NA).mono ?_
  rintro e w1 ⟨rfl, rfl⟩
  go_wp2_with fail
  with_reducible refine (NX).mono ?_
  rintro e w1 ⟨rfl, rfl⟩
  go_wp2
  go_ret2
  exact ⟨_, rfl, hl, by first | rfl | decide, Below.refl _ _⟩


theorem smooth_5eq (w : World) (l x a : Nat) (hl : l ≤ 18446744073709551615) (hx : x ≤ 18446744073709551615) (ha : a ≤ 18446744073709551615)
    (na : nanB a = false)
    (h0 : FloatKind.f64.format.order a 0 = some .gt)
    (h1 : FloatKind.f64.format.order a 4607182418800017408 = some .eq)
    (nx : nanB x = false)
    (nl : nanB l = true) :
    Calls Try.prog 27 #[.float .f64 l, .float .f64 x, .float .f64 a] w (FE w (canB x) 0) := by
  have NA := isNaN_any w a ha
  have NX := isNaN_any w x hx
  have NL := isNaN_any w l hl
  rw [na, nx, nl] at *
  go_enter Try.func27, Try.ntmps27
  go_wp2_with fail
  with_reducible refine (NA).mono ?_
  rintro e w1 ⟨rfl, rfl⟩
  go_wp2_with fail
  with_reducible refine (NX).mono ?_
  rintro e w1 ⟨rfl, rfl⟩
  go_wp2_with fail
  with_reducible refine (NL).mono ?_
  rintro e w1 ⟨rfl, rfl⟩
  go_wp2
  go_ret2
  exact ⟨_, rfl, hx, by first | rfl | decide, Below.refl _ _⟩


theorem smooth_4lt (w : World) (l x a : Nat) (hl : l ≤ 18446744073709551615) (hx : x ≤ 18446744073709551615) (ha : a ≤ 18446744073709551615)
    (na : nanB a = false)
    (h0 : FloatKind.f64.format.order a 0 = some .gt)
    (h1 : FloatKind.f64.format.order a 4607182418800017408 = some .lt)
    (nx : nanB x = true) :
    Calls Try.prog 27 #[.float .f64 l, .float .f64 x, .float .f64 a] w (FE w (canB l) 0) := by
  have NA := isNaN_any w a ha
  have NX := isNaN_any w x hx
  have NL := isNaN_any w l hl
  rw [na, nx] at *
  go_enter Try.func27, Try.ntmps27
  go_wp2_with fail
  with_reducible refine (NA).mono ?_
  rintro e w1 ⟨rfl, rfl⟩
  go_wp2_with fail
  with_reducible refine (NX).mono ?_
  rintro e w1 ⟨rfl, rfl⟩
  go_wp2
  go_ret2
  exact ⟨_, rfl, hl, by first | rfl | decide, Below.refl _ _⟩


theorem smooth_5lt (w : World) (l x a : Nat) (hl : l ≤ 18446744073709551615) (hx : x ≤ 18446744073709551615) (ha : a ≤ 18446744073709551615)
    (na : nanB a = false)
    (h0 : FloatKind.f64.format.order a 0 = some .gt)
    (h1 : FloatKind.f64.format.order a 4607182418800017408 = some .lt)
    (nx : nanB x = false)
    (nl : nanB l = true) :
    Calls Try.prog 27 #[.float .f64 l, .float .f64 x, .float .f64 a] w (FE w (canB x) 0) := by
  have NA := isNaN_any w a ha
  have NX := isNaN_any w x hx
  have NL := isNaN_any w l hl
  rw [na, nx, nl] at *
  go_enter Try.func27, Try.ntmps27
  go_wp2_with fail
  with_reducible refine (NA).mono ?_
  rintro e w1 ⟨rfl, rfl⟩
  go_wp2_with fail
  with_reducible refine (NX).mono ?_
  rintro e w1 ⟨rfl, rfl⟩
  go_wp2_with fail
  with_reducible refine (NL).mono ?_
  rintro e w1 ⟨rfl, rfl⟩
  go_wp2
  go_ret2
  exact ⟨_, rfl, hx, by first | rfl | decide, Below.refl _ _⟩


theorem smooth_6 (w : World) (l x a : Nat) (hl : l ≤ 18446744073709551615) (hx : x ≤ 18446744073709551615) (ha : a ≤ 18446744073709551615)
    (na : nanB a = false)
    (h0 : FloatKind.f64.format.order a 0 = some .gt)
    (h1 : FloatKind.f64.format.order a 4607182418800017408 = some .eq)
    (nx : nanB x = false)
    (nl : nanB l = false) :
    Calls Try.prog 27 #[.float .f64 l, .float .f64 x, .float .f64 a] w (FE w (canB x) 0) := by
  have NA := isNaN_any w a ha
  have NX := isNaN_any w x hx
  have NL := isNaN_any w l hl
  rw [na, nx, nl] at *
  go_enter Try.func27, Try.ntmps27
  go_wp2_with fail
  with_reducible refine (NA).mono ?_
  rintro e w1 ⟨rfl, rfl⟩
  go_wp2_with fail
  with_reducible refine (NX).mono ?_
  rintro e w1 ⟨rfl, rfl⟩
  go_wp2_with fail
  with_reducible refine (NL).mono ?_
  rintro e w1 ⟨rfl, rfl⟩
  go_wp2
  go_ret2
  exact ⟨_, rfl, hx, by first | rfl | decide, Below.refl _ _⟩


theorem smooth_7 (w : World) (l x a : Nat) (hl : l ≤ 18446744073709551615) (hx : x ≤ 18446744073709551615) (ha : a ≤ 18446744073709551615)
    (na : nanB a = false)
    (h0 : FloatKind.f64.format.order a 0 = some .gt)
    (h1 : FloatKind.f64.format.order a 4607182418800017408 = some .lt)
    (nx : nanB x = false)
    (nl : nanB l = false) :
    Calls Try.prog 27 #[.float .f64 l, .float .f64 x, .float .f64 a] w (FE w (fop .add (canB l) (fop .mul (canB a) (fop .sub (canB x) (canB l)))) 0) := by
  have NA := isNaN_any w a ha
  have NX := isNaN_any w x hx
  have NL := isNaN_any w l hl
  rw [na, nx, nl] at *
  have F := fun op h x y w => run_fV Try.prog (op := op) h 27 x y w
  have F1 := F .sub rfl
  have F2 := F .mul rfl
  have F3 := F .add rfl
  clear F
  go_enter Try.func27, Try.ntmps27
  go_wp2_with fail
  with_reducible refine (NA).mono ?_
  rintro e w1 ⟨rfl, rfl⟩
  go_wp2_with fail
  with_reducible refine (NX).mono ?_
  rintro e w1 ⟨rfl, rfl⟩
  go_wp2_with fail
  with_reducible refine (NL).mono ?_
  rintro e w1 ⟨rfl, rfl⟩
  go_wp2
  go_ret2
  refine ⟨_, rfl, fV_le _ _ _ _, ?_, ?_⟩
  · rw [can_fV, can_fV, can_fV]
  · first | exact below_drewN (Below.refl _ _) _ | exact below_drewN (below_drewN (Below.refl _ _) _) _ | exact below_drewN (below_drewN (below_drewN (Below.refl _ _) _) _) _

end Go.Proofs.Ytffibfnagoagcaa
