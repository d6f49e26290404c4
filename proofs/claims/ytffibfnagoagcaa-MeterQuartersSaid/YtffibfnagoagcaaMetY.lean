/- Contract: Quantile of 3, 1, 2 at one half. -/
import Derived.Test.YtffibfnagoagcaaMetX
namespace Go.Proofs.Ytffibfnagoagcaa
open Go.RowKit Go.Shelf Go.Sort
set_option maxRecDepth 100000
set_option linter.unusedVariables false

theorem below_putRow (w2 : World) {B : Nat} (g off : Nat) (d' : Array F64) (k : Nat) (hg : B ≤ g) : RowKit.Below B w2 ((putRow encF w2 g off d').drewN k) := by
  have h : RowKit.Below B w2 (putRow encF w2 g off d') := ⟨rfl, rfl, rfl, by simp [putRow, mapBlock], fun i hi => by
    have hne : ¬ g = i := by omega
    simp [putRow, mapBlock, Array.getElem?_modify, hne]⟩
  exact below_drewN h k
theorem run_conv2 (w : World) : (convert 3 27 (.int .i64 2)).run Try.prog w = .ok (.float .f64 4611686018427387904) w := by
  have e : floatOfInt FloatKind.f64 2 = 4611686018427387904 := by decide +kernel
  rw [← e]
  simp [go_sem]
set_option maxHeartbeats 1600000 in
theorem quant_awake (w : World) (b off c : Nat) (h : ArgF w w.heap.size (some ⟨b, off, none⟩) 3 c [4613937818241073152, 4607182418800017408, 4611686018427387904]) :
    Calls Try.prog 29 #[.slice (some ⟨b, off, none⟩) 3 c, .float .f64 4602678819172646912] w fun e w' => e = .returned (.tuple #[.float .f64 4611686018427387904, .int .i64 0]) ∧ Below w.heap.size w w' := by
  have NQ := isNaN_any w 4602678819172646912 (by omega)
  rw [show nanB 4602678819172646912 = false by decide] at NQ
  have HC := containsNaN_any w _ _ _ _ h
  rw [show ([4613937818241073152, 4607182418800017408, 4611686018427387904] : List Nat).any nanB = false by decide] at HC
  unfold isNaNF at HC
  have HK := clone_any w b off 3 c _ h (by omega) (by omega)
  have o1 : FloatKind.f64.format.order 4602678819172646912 0 = some .gt := by decide +kernel
  have o2 : FloatKind.f64.format.order 4602678819172646912 4607182418800017408 = some .lt := by decide +kernel
  have F2 := fun w => run_float_arith (P := Try.prog) w .mul 27 .f64 4602678819172646912 4611686018427387904 4607182418800017408 (by decide +kernel)
  have HW := Lib.hid h
  clear h
  go_enter Try.func29, Try.ntmps29
  go_wp2_with fail
  with_reducible refine NQ.mono ?_
  rintro e w1 ⟨rfl, rfl⟩
  go_wp2_with fail
  with_reducible refine HC.mono ?_
  rintro e w1 ⟨rfl, rfl⟩
  go_wp2_with fail
  with_reducible refine HK.mono ?_
  rintro e w2 ⟨g, cap, rfl, hg, hc, hf, hcap1, hcap2, hgl, hb⟩
  have HH : Holds encF w2 g 0 #[f3, f1, f2] := fun j hj => by
    have hj' : j < 3 := hj
    refine ⟨?_, by rw [Nat.zero_add]; exact hf j⟩
    rw [Nat.zero_add, hc j hj']
    have : j = 0 ∨ j = 1 ∨ j = 2 := by omega
    rcases this with rfl | rfl | rfl <;> rfl
  have HS := sort_small w2 g 0 cap #[f3, f1, f2] HH (by decide)
  have HB := Lib.hid hb
  have HHH := Lib.hid HH
  clear hb hc hf HH
  go_wp2_with fail
  refine HS.mono ?_
  rintro e w3 ⟨rfl, d', k, hp, hs, rfl⟩
  obtain ⟨hz, hm⟩ := mid_of d' hp hs
  have hcell := fun j (hj : j < d'.size) => cell?_putRow encF w2 g 0 #[f3, f1, f2] d' HHH.out (by rw [hz]; rfl) j hj
  have hsz : ((putRow encF w2 g 0 d').drewN k).heap.size = w2.heap.size := by simp [putRow, mapBlock]
  have hbel := below_putRow w2 g 0 d' k hg
  have harg : ArgF ((putRow encF w2 g 0 d').drewN k) ((putRow encF w2 g 0 d').drewN k).heap.size (some ⟨g, 0, none⟩) 3 cap [d'[0]!.val, d'[1]!.val, d'[2]!.val] :=
    ⟨rfl, hcap1, hcap2, fun x hx => by
      simp only [List.mem_cons, List.not_mem_nil, or_false] at hx
      rcases hx with rfl | rfl | rfl <;> omega, fun _ => ⟨g, 0, rfl, by rw [hsz]; exact hgl, fun j hj => by
        have := hcell j (by omega)
        have hj3 : j = 0 ∨ j = 1 ∨ j = 2 := by omega
        rcases hj3 with rfl | rfl | rfl <;> exact this⟩⟩
  have HBt := between_one _ _ 3 cap _ harg (by omega)
  have e1 : [d'[0]!.val, d'[1]!.val, d'[2]!.val].getD 1 0 = 4611686018427387904 := by
    show d'[1]!.val = _
    rw [hm]; rfl
  rw [e1] at HBt
  have HBel := Lib.hid (HB.out.trans hbel)
  clear hcell hsz hbel harg e1 hp hs HS HHH
  generalize (putRow encF w2 g 0 d').drewN k = W at *
  have hc2 := run_conv2
  go_wp2_with fail
  with_reducible refine HBt.mono ?_
  rintro e w4 ⟨rfl, rfl⟩
  go_wp2
  go_ret2
  exact ⟨rfl, HBel.out⟩
end Go.Proofs.Ytffibfnagoagcaa
