/- Contract: made of the law's package. -/
import Derived.Test.YtffibfnagoagcaaMetW
import Derived.Test.YtffibfnagoagcaaMetL
import Derived.Deep.RegionHeld3
import Derived.BigRegion
namespace Go.Proofs.Ytffibfnagoagcaa
open Go.RowKit
set_option maxRecDepth 100000
set_option linter.unusedVariables false

set_option maxHeartbeats 3200000 in
theorem made_any (w : World) (n bad : Int) (su lo lw hi me sp : Nat) :
    Calls Try.prog 15 #[.agg #[.int .i64 n, .int .i64 bad, .int .u64 (su : Int), .int .u64 (lo : Int), .int .u64 (lw : Int), .int .u64 (hi : Int), .int .u64 (me : Int), .int .u64 (sp : Int)]] w fun e w' =>
      e = .returned (.tuple #[MV.val ⟨n, bad, su, lo, lw, hi, me, sp⟩, MV.val ⟨n, bad, su, lo, lw, hi, me, sp⟩]) ∧ Below w.heap.size w w' := by
  have HOF := Lib.hid (fun w p => of8_any w p)
  have kst : ∀ (a : Addr) (x : Nat) (w : World), (store a (.float .f64 x)).run Try.prog w = stored Try.prog w a (.float .f64 x) .plain := fun a x w => run_store _ _ _ _ _ rfl
  go_enter Try.func15, Try.ntmps15
  go_wp2
  have K1 := Lib.hid (((BlkL.new w [.int .i64 n, .int .i64 bad, .int .u64 (su : Int), .int .u64 (lo : Int), .int .u64 (lw : Int), .int .u64 (hi : Int), .int .u64 (me : Int), .int .u64 (sp : Int)] 24).alloc (.cells #[.int .i64 0, .int .i64 0, .float .f64 0, .float .f64 0, .float .f64 0, .float .f64 0, .float .f64 0, .float .f64 0] 29)).alloc (.cells #[.int .i64 0, .int .i64 0, .float .f64 0, .float .f64 0, .float .f64 0, .float .f64 0, .float .f64 0, .float .f64 0] 31))
  have k2 := (BlkL.new (w.alloc (.cells #[.int .i64 n, .int .i64 bad, .int .u64 (su : Int), .int .u64 (lo : Int), .int .u64 (lw : Int), .int .u64 (hi : Int), .int .u64 (me : Int), .int .u64 (sp : Int)] 24)) [.int .i64 0, .int .i64 0, .float .f64 0, .float .f64 0, .float .f64 0, .float .f64 0, .float .f64 0, .float .f64 0] 29).alloc (.cells #[.int .i64 0, .int .i64 0, .float .f64 0, .float .f64 0, .float .f64 0, .float .f64 0, .float .f64 0, .float .f64 0] 31)
  have k3 := BlkL.new ((w.alloc (.cells #[.int .i64 n, .int .i64 bad, .int .u64 (su : Int), .int .u64 (lo : Int), .int .u64 (lw : Int), .int .u64 (hi : Int), .int .u64 (me : Int), .int .u64 (sp : Int)] 24)).alloc (.cells #[.int .i64 0, .int .i64 0, .float .f64 0, .float .f64 0, .float .f64 0, .float .f64 0, .float .f64 0, .float .f64 0] 29)) [.int .i64 0, .int .i64 0, .float .f64 0, .float .f64 0, .float .f64 0, .float .f64 0, .float .f64 0, .float .f64 0] 31
  simp only [World.size_alloc] at k2 k3
  have K2 := Lib.hid k2
  have K3 := Lib.hid k3
  have HB := Lib.hid ((((Below.refl w.heap.size w).alloc (Nat.le_refl _) (.cells #[.int .i64 n, .int .i64 bad, .int .u64 (su : Int), .int .u64 (lo : Int), .int .u64 (lw : Int), .int .u64 (hi : Int), .int .u64 (me : Int), .int .u64 (sp : Int)] 24)).alloc (by simp) (.cells #[.int .i64 0, .int .i64 0, .float .f64 0, .float .f64 0, .float .f64 0, .float .f64 0, .float .f64 0, .float .f64 0] 29)).alloc (by simp; omega) (.cells #[.int .i64 0, .int .i64 0, .float .f64 0, .float .f64 0, .float .f64 0, .float .f64 0, .float .f64 0, .float .f64 0] 31))
  have hsz : (((w.alloc (.cells #[.int .i64 n, .int .i64 bad, .int .u64 (su : Int), .int .u64 (lo : Int), .int .u64 (lw : Int), .int .u64 (hi : Int), .int .u64 (me : Int), .int .u64 (sp : Int)] 24)).alloc (.cells #[.int .i64 0, .int .i64 0, .float .f64 0, .float .f64 0, .float .f64 0, .float .f64 0, .float .f64 0, .float .f64 0] 29)).alloc (.cells #[.int .i64 0, .int .i64 0, .float .f64 0, .float .f64 0, .float .f64 0, .float .f64 0, .float .f64 0, .float .f64 0] 31)).heap.size = w.heap.size + 1 + 1 + 1 := by simp
  clear k2 k3
  generalize ((w.alloc (.cells #[.int .i64 n, .int .i64 bad, .int .u64 (su : Int), .int .u64 (lo : Int), .int .u64 (lw : Int), .int .u64 (hi : Int), .int .u64 (me : Int), .int .u64 (sp : Int)] 24)).alloc (.cells #[.int .i64 0, .int .i64 0, .float .f64 0, .float .f64 0, .float .f64 0, .float .f64 0, .float .f64 0, .float .f64 0] 29)).alloc (.cells #[.int .i64 0, .int .i64 0, .float .f64 0, .float .f64 0, .float .f64 0, .float .f64 0, .float .f64 0, .float .f64 0] 31) = wA at *
  generalize hz : w.heap.size = z at *
  go_region_held3 (fun w' => w'.cell? ⟨z, 0, none⟩ = some (.int .i64 n) ∧ w'.cell? ⟨z, 1, none⟩ = some (.int .i64 bad) ∧ w'.cell? ⟨z, 2, none⟩ = some (.int .u64 (su : Int)) ∧ w'.cell? ⟨z, 3, none⟩ = some (.int .u64 (lo : Int)) ∧ w'.cell? ⟨z, 4, none⟩ = some (.int .u64 (lw : Int)) ∧ w'.cell? ⟨z, 5, none⟩ = some (.int .u64 (hi : Int)) ∧ w'.cell? ⟨z, 6, none⟩ = some (.int .u64 (me : Int)) ∧ w'.cell? ⟨z, 7, none⟩ = some (.int .u64 (sp : Int)))
    ((refine ⟨BlkL.cell (xs := [.int .i64 n, .int .i64 bad, .int .u64 (su : Int), .int .u64 (lo : Int), .int .u64 (lw : Int), .int .u64 (hi : Int), .int .u64 (me : Int), .int .u64 (sp : Int)]) ?_ 0 _ rfl, BlkL.cell (xs := [.int .i64 n, .int .i64 bad, .int .u64 (su : Int), .int .u64 (lo : Int), .int .u64 (lw : Int), .int .u64 (hi : Int), .int .u64 (me : Int), .int .u64 (sp : Int)]) ?_ 1 _ rfl, BlkL.cell (xs := [.int .i64 n, .int .i64 bad, .int .u64 (su : Int), .int .u64 (lo : Int), .int .u64 (lw : Int), .int .u64 (hi : Int), .int .u64 (me : Int), .int .u64 (sp : Int)]) ?_ 2 _ rfl, BlkL.cell (xs := [.int .i64 n, .int .i64 bad, .int .u64 (su : Int), .int .u64 (lo : Int), .int .u64 (lw : Int), .int .u64 (hi : Int), .int .u64 (me : Int), .int .u64 (sp : Int)]) ?_ 3 _ rfl, BlkL.cell (xs := [.int .i64 n, .int .i64 bad, .int .u64 (su : Int), .int .u64 (lo : Int), .int .u64 (lw : Int), .int .u64 (hi : Int), .int .u64 (me : Int), .int .u64 (sp : Int)]) ?_ 4 _ rfl, BlkL.cell (xs := [.int .i64 n, .int .i64 bad, .int .u64 (su : Int), .int .u64 (lo : Int), .int .u64 (lw : Int), .int .u64 (hi : Int), .int .u64 (me : Int), .int .u64 (sp : Int)]) ?_ 5 _ rfl, BlkL.cell (xs := [.int .i64 n, .int .i64 bad, .int .u64 (su : Int), .int .u64 (lo : Int), .int .u64 (lw : Int), .int .u64 (hi : Int), .int .u64 (me : Int), .int .u64 (sp : Int)]) ?_ 6 _ rfl, BlkL.cell (xs := [.int .i64 n, .int .i64 bad, .int .u64 (su : Int), .int .u64 (lo : Int), .int .u64 (lw : Int), .int .u64 (hi : Int), .int .u64 (me : Int), .int .u64 (sp : Int)]) ?_ 7 _ rfl⟩ <;> (repeat' first | with_reducible exact K1.out | with_reducible refine BlkL.drew ?_ | with_reducible refine BlkL.alloc ?_ _)))
    (first | ((with_reducible refine (HOF.out _ _).mono ?_); rintro e wx ⟨rfl, rfl⟩))
  all_goals
    have k4 := (BlkL.new wA [.int .i64 n, .int .i64 bad, .float .f64 su, .float .f64 lo, .float .f64 lw, .float .f64 hi, .float .f64 me, .float .f64 sp] 29).drew
    rw [hsz] at k4
    have k2 := (K2.out.alloc (.cells #[.int .i64 n, .int .i64 bad, .float .f64 su, .float .f64 lo, .float .f64 lw, .float .f64 hi, .float .f64 me, .float .f64 sp] 29)).drew
    have k3 := (K3.out.alloc (.cells #[.int .i64 n, .int .i64 bad, .float .f64 su, .float .f64 lo, .float .f64 lw, .float .f64 hi, .float .f64 me, .float .f64 sp] 29)).drew
    have HB4 := Lib.hid ((HB.out.alloc (by omega) (.cells #[.int .i64 n, .int .i64 bad, .float .f64 su, .float .f64 lo, .float .f64 lw, .float .f64 hi, .float .f64 me, .float .f64 sp] 29)).drew)
    generalize World.drew (World.alloc wA _) = wB at *
    have a0 := k4.cell 0 _ rfl
    have a1 := k4.cell 1 _ rfl
    have a2 := k4.cell 2 _ rfl
    have a3 := k4.cell 3 _ rfl
    have a4 := k4.cell 4 _ rfl
    have a5 := k4.cell 5 _ rfl
    have a6 := k4.cell 6 _ rfl
    have a7 := k4.cell 7 _ rfl
    have b0 := k2.cell 0 _ rfl
    have bf0 := k2.froz 0 (by simp)
    have b1 := k2.cell 1 _ rfl
    have bf1 := k2.froz 1 (by simp)
    have b2 := k2.cell 2 _ rfl
    have bf2 := k2.froz 2 (by simp)
    have b3 := k2.cell 3 _ rfl
    have bf3 := k2.froz 3 (by simp)
    have b4 := k2.cell 4 _ rfl
    have bf4 := k2.froz 4 (by simp)
    have b5 := k2.cell 5 _ rfl
    have bf5 := k2.froz 5 (by simp)
    have b6 := k2.cell 6 _ rfl
    have bf6 := k2.froz 6 (by simp)
    have b7 := k2.cell 7 _ rfl
    have bf7 := k2.froz 7 (by simp)
    have c0 := k3.cell 0 _ rfl
    have cf0 := k3.froz 0 (by simp)
    have c1 := k3.cell 1 _ rfl
    have cf1 := k3.froz 1 (by simp)
    have c2 := k3.cell 2 _ rfl
    have cf2 := k3.froz 2 (by simp)
    have c3 := k3.cell 3 _ rfl
    have cf3 := k3.froz 3 (by simp)
    have c4 := k3.cell 4 _ rfl
    have cf4 := k3.froz 4 (by simp)
    have c5 := k3.cell 5 _ rfl
    have cf5 := k3.froz 5 (by simp)
    have c6 := k3.cell 6 _ rfl
    have cf6 := k3.froz 6 (by simp)
    have c7 := k3.cell 7 _ rfl
    have cf7 := k3.froz 7 (by simp)
    have lb := k2.lt
    have lc := k3.lt
    have l4 := k4.lt
    have K2B := Lib.hid k2
    have K3B := Lib.hid k3
    clear K1 K2 K3 HB k2 k3 k4
    go_wp2
    go_region
    have r2 := ((K2B.out.put8 (.int .i64 n) (.int .i64 bad) (.float .f64 su) (.float .f64 lo) (.float .f64 lw) (.float .f64 hi) (.float .f64 me) (.float .f64 sp)).other8 (b' := z + 1 + 1) (by omega) (.int .i64 n) (.int .i64 bad) (.float .f64 su) (.float .f64 lo) (.float .f64 lw) (.float .f64 hi) (.float .f64 me) (.float .f64 sp)).drew
    have r3 := ((K3B.out.other8 (b' := z + 1) (by omega) (.int .i64 n) (.int .i64 bad) (.float .f64 su) (.float .f64 lo) (.float .f64 lw) (.float .f64 hi) (.float .f64 me) (.float .f64 sp)).put8 (.int .i64 n) (.int .i64 bad) (.float .f64 su) (.float .f64 lo) (.float .f64 lw) (.float .f64 hi) (.float .f64 me) (.float .f64 sp)).drew
    have HB6 := Lib.hid (below_put8 (below_put8 HB4.out (b := z + 1) (by omega) (.int .i64 n) (.int .i64 bad) (.float .f64 su) (.float .f64 lo) (.float .f64 lw) (.float .f64 hi) (.float .f64 me) (.float .f64 sp)) (b := z + 1 + 1) (by omega) (.int .i64 n) (.int .i64 bad) (.float .f64 su) (.float .f64 lo) (.float .f64 lw) (.float .f64 hi) (.float .f64 me) (.float .f64 sp)).drew
    generalize World.drew (World.setCell _ _ _) = wC at *
    have n0 := r2.cell 0 _ rfl
    have n1 := r2.cell 1 _ rfl
    have n2 := r2.cell 2 _ rfl
    have n3 := r2.cell 3 _ rfl
    have n4 := r2.cell 4 _ rfl
    have n5 := r2.cell 5 _ rfl
    have n6 := r2.cell 6 _ rfl
    have n7 := r2.cell 7 _ rfl
    have m0 := r3.cell 0 _ rfl
    have m1 := r3.cell 1 _ rfl
    have m2 := r3.cell 2 _ rfl
    have m3 := r3.cell 3 _ rfl
    have m4 := r3.cell 4 _ rfl
    have m5 := r3.cell 5 _ rfl
    have m6 := r3.cell 6 _ rfl
    have m7 := r3.cell 7 _ rfl
    clear r2 r3 K2B K3B HB4
    go_wp2
    refine bodyPost_ret (v := .tuple #[MV.val ⟨n, bad, su, lo, lw, hi, me, sp⟩, MV.val ⟨n, bad, su, lo, lw, hi, me, sp⟩]) (by simp [results, Try.results15, go_sem, MV.val, n0, n1, n2, n3, n4, n5, n6, n7, m0, m1, m2, m3, m4, m5, m6, m7]) rfl ⟨rfl, ?_⟩
    rw [hz]
    exact HB6.out
end Go.Proofs.Ytffibfnagoagcaa
