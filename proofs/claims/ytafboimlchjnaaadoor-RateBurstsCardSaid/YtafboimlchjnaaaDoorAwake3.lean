/- The document's fixed calls of real answer as it says. -/
import Derived.Test.YtafboimlchjnaaaDoorQuotP
import Derived.Test.YtafboimlchjnaaaDoorOrdP
namespace Go.Proofs.YtafboimlchjnaaaDoor
open Go.RowKit
set_option maxRecDepth 100000

theorem cell_lt {w : World} {g j : Nat} {v : Value} (h : w.cell? ⟨g, j, none⟩ = some v) : g < w.heap.size := by
  rcases Nat.lt_or_ge g w.heap.size with h1 | h1
  · exact h1
  · exfalso
    unfold World.cell? at h
    rw [Array.getElem?_eq_none h1] at h
    simp at h
theorem Tab.below {w w' : World} (h : Tab w) (hb : Below w.heap.size w w') : Tab w' := fun j hj => by
  have := h j hj
  exact (hb.cell (p := ⟨1, j, none⟩) (cell_lt this)).trans this
theorem Tab.drewN {w : World} (h : Tab w) (n : Nat) : Tab (w.drewN n) := h.below (below_drewN (Below.refl _ _) n)

theorem ticks_half : ticksV 4602678819172646912 1000 0 = (500, 0) := by decide +kernel
theorem sec_quarter : secV 1 4 = .tuple #[.float .f64 4598175219545276416, .int .i64 0] := by
  have h : ratioB 1 4 = 4598175219545276416 := by decide +kernel
  unfold secV
  rw [if_neg (by decide), h]
theorem exact_three : exactV 13828302655841107968 = .tuple #[.bool true, .int .u64 3, .int .i64 (-2), .int .i64 0] := by
  have h1 : kindB 13828302655841107968 = 2 := by decide +kernel
  have h2 : manS (szB 13828302655841107968) = 6755399441055744 := by decide +kernel
  have h3 : oddM 6755399441055744 = 3 := by decide +kernel
  have h4 : expS (szB 13828302655841107968) + tz 64 6755399441055744 = -2 := by decide +kernel
  have h5 : negB 13828302655841107968 = true := by decide
  unfold exactV
  rw [if_neg (by omega), if_neg (by omega), h2, if_neg (by omega), h3, h4, h5]
  rfl
theorem kind_one : kindB 4607182418800017408 = 2 := by decide +kernel
theorem ord_one_two : ordB 4607182418800017408 4611686018427387904 = -1 := by decide +kernel

set_option maxHeartbeats 1600000 in
theorem awake3_any (w : World) (hT : Tab w) : Calls Tryd.prog 19 #[] w fun e w' => e = .returned (.bool true) ∧ Below w.heap.size w w' := by
  have HT := Lib.hid hT
  have H1 := Lib.hid (fun w hT => ticksP_any w 4602678819172646912 1000 0 (by omega) hT)
  have H2 := Lib.hid (fun w => secP_any w 1 4 (by omega) (by omega) (by omega) (by omega))
  have H3 := Lib.hid (fun w hT => exactP_any w 13828302655841107968 (by omega) hT)
  have H4 := Lib.hid (fun w => kindP_any w 4607182418800017408 (by omega))
  have H5 := Lib.hid (fun w => orderP_any w 4607182418800017408 4611686018427387904 (by omega) (by omega))
  rw [ticks_half] at H1
  rw [sec_quarter] at H2
  rw [exact_three] at H3
  rw [kind_one] at H4
  rw [ord_one_two] at H5
  have E : FloatKind.f64.format.order 4598175219545276416 4598175219545276416 = some .eq := ordF_self (by omega) (by decide)
  clear hT
  go_enter Tryd.func19, Tryd.ntmps19
  go_wp2_with fail
  refine (H1.out _ HT.out).mono ?_
  rintro e w1 ⟨rfl, hb1⟩
  have HT1 := Lib.hid (HT.out.below hb1)
  have HB1 := Lib.hid hb1
  clear hb1
  go_wp2_with fail
  refine (H2.out _).mono ?_
  rintro e w2 ⟨rfl, n, rfl⟩
  go_wp2_with fail
  refine (H3.out _ (HT1.out.drewN n)).mono ?_
  rintro e w2 ⟨rfl, n2, rfl⟩
  go_wp2_with fail
  refine (H4.out _).mono ?_
  rintro e w2 ⟨rfl, rfl⟩
  go_wp2_with fail
  refine (H5.out _).mono ?_
  rintro e w2 ⟨rfl, rfl⟩
  go_wp2
  go_ret
  exact ⟨rfl, below_drewN HB1.out _⟩
end Go.Proofs.YtafboimlchjnaaaDoor
