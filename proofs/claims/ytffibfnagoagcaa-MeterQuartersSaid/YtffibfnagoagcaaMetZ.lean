/- The law's awake. -/
import Derived.Test.YtffibfnagoagcaaMetY
import Derived.Test.YtffibfnagoagcaaMetD
namespace Go.Proofs.Ytffibfnagoagcaa
open Go.RowKit
set_option maxRecDepth 100000
set_option linter.unusedVariables false

theorem can_eq {x v : Nat} (h : canB x = v) (hv : nanB v = false) : x = v := by
  rcases hx : nanB x with _ | _
  · rw [can_fin hx] at h; exact h
  · have := nan_can x
    rw [h, hv, hx] at this; cases this
theorem awk_m {m : MV} (h : m.can = addAll newM.can [4607182418800017408, 4611686018427387904]) : m.n = 2 ∧ m.sum = 4613937818241073152 ∧ m.mean = 4609434218613702656 ∧ m.spr = 4602678819172646912 :=
  ⟨(congrArg MV.n h).trans (by decide +kernel), can_eq ((congrArg MV.sum h).trans (by decide +kernel)) (by decide), can_eq ((congrArg MV.mean h).trans (by decide +kernel)) (by decide), can_eq ((congrArg MV.spr h).trans (by decide +kernel)) (by decide)⟩
theorem awk_s : smV 4621819117588971520 4626322717216342016 4598175219545276416 = 4623226492472524800 ∧ smE 4598175219545276416 = 0 := by decide +kernel
theorem argF_new (w : World) (xs : List Nat) (t : TypeId) (n : Nat) (hl : xs.length = n) (hn : n ≤ 4096) (hx : ∀ x ∈ xs, x ≤ 18446744073709551615) :
    ArgF (w.alloc (.cells (xs.map fun x => Value.float .f64 x).toArray t)) (w.alloc (.cells (xs.map fun x => Value.float .f64 x).toArray t)).heap.size (some ⟨w.heap.size, 0, none⟩) n n xs :=
  ⟨hl, Nat.le_refl _, by unfold maxLen; omega, hx, fun _ => ⟨_, 0, rfl, by simp, fun j hj => by
    rw [Nat.zero_add]
    refine (BlkL.new w (xs.map fun x => Value.float .f64 x) t).cell j _ ?_
    rw [List.getElem?_map, List.getD_eq_getElem?_getD, List.getElem?_eq_getElem (by omega)]; rfl⟩⟩
set_option maxHeartbeats 1600000 in
theorem awake8_any (w : World) : Calls Try.prog 11 #[] w (ValEnd w (.bool true)) := by
  have HS := (smooth_both 4621819117588971520 4626322717216342016 4598175219545276416 (by omega) (by omega) (by omega)).1
  rw [awk_s.1, awk_s.2] at HS
  have kst : ∀ (a : Addr) (x : Nat) (w : World), (store a (.float .f64 x)).run Try.prog w = stored Try.prog w a (.float .f64 x) .plain := fun a x w => run_store _ _ _ _ _ rfl
  have o1 : FloatKind.f64.format.order 4613937818241073152 4613937818241073152 = some .eq := by decide +kernel
  have o2 : FloatKind.f64.format.order 4609434218613702656 4609434218613702656 = some .eq := by decide +kernel
  have o3 : FloatKind.f64.format.order 4602678819172646912 4602678819172646912 = some .eq := by decide +kernel
  have o4 : FloatKind.f64.format.order 4623226492472524800 4623226492472524800 = some .eq := by decide +kernel
  have o5 : FloatKind.f64.format.order 4611686018427387904 4611686018427387904 = some .eq := by decide +kernel
  go_enter Try.func11, Try.ntmps11
  go_wp2_with fail
  have HO := ofP_any _ _ 2 2 _ (argF_new w [4607182418800017408, 4611686018427387904] 27 2 rfl (by omega) (by decide)) (by omega)
  refine HO.mono ?_
  rintro e w2 ⟨m, rfl, ok, hm, hb⟩
  obtain ⟨e1, e2, e3, e4⟩ := awk_m hm
  obtain ⟨mn, mb, su, lo, lw, hh, me, sp⟩ := m
  simp only at e1 e2 e3 e4
  subst e1 e2 e3 e4
  simp only [MV.val]
  have HB2 := Lib.hid (((Below.refl w.heap.size w).alloc (Nat.le_refl _) _).trans (hb.mono (by simp)))
  clear hb hm ok HO
  go_wp2_with fail
  with_reducible refine (HS _).mono ?_
  rintro e w3 ⟨y, rfl, ly, cy, hb3⟩
  obtain rfl := can_eq cy (by decide)
  have K := (BlkL.new w2 [.int .i64 2, .int .i64 mb, .float .f64 4613937818241073152, .float .f64 lo, .float .f64 lw, .float .f64 hh, .float .f64 4609434218613702656, .float .f64 4602678819172646912] 29).below hb3
  have HB3 := Lib.hid ((HB2.out.alloc HB2.out.size _).trans (hb3.mono (by have := HB2.out.size; simp; omega)))
  clear hb3 ly cy
  have HK3 := Lib.hid K
  clear K
  go_wp2_with fail
  have HQ := quant_awake _ _ 0 3 (argF_new w3 [4613937818241073152, 4607182418800017408, 4611686018427387904] 27 3 rfl (by omega) (by decide))
  refine HQ.mono ?_
  rintro e w4 ⟨rfl, hb4⟩
  have K := (HK3.out.alloc _).below hb4
  have HB4 := Lib.hid ((HB3.out.alloc HB3.out.size _).trans (hb4.mono (by have := HB3.out.size; simp; omega)))
  clear hb4 HQ
  have c0 := K.cell 0 _ rfl
  have c2 := K.cell 2 _ rfl
  have c6 := K.cell 6 _ rfl
  have c7 := K.cell 7 _ rfl
  have zl := K.lt
  clear K
  go_wp2
  go_ret
  exact ⟨rfl, HB4.out⟩
end Go.Proofs.Ytffibfnagoagcaa
