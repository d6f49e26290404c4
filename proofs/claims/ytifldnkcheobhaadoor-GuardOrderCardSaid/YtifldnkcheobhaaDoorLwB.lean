/- awake of the laws on cause. -/
import Derived.Test.YtifldnkcheobhaaDoorLwA
namespace Go.Proofs.YtifldnkcheobhaaDoor
open Go.RowKit
set_option maxRecDepth 100000
set_option linter.unusedVariables false
set_option linter.unusedSimpArgs false
set_option maxHeartbeats 4000000

def RunM (W : World) (n : Nat) (oc on : Int) (marks : List MarkV) (e : Ending) (w' : World) : Prop :=
  ∃ A c, e = .returned (.tuple #[.slice A n c, .agg #[.int .u8 oc, .int .i64 on], .int .i64 0]) ∧ OwnS w' W.heap.size 3 A n c (FMk marks) ∧ Below W.heap.size W w'
theorem run_litM {w0 W : World} (h0 : Lib0 w0) (hb : Below w0.heap.size w0 W) (ob : Nat) (fs : List (Nat × List ActV)) (h : BlkL W ob (fs.map fun q => .slice (some ⟨q.1, 0, none⟩) q.2.length q.2.length)) (hi : ∀ q ∈ fs, BlkL W q.1 (FAc q.2))
    (h1 : fs.length ≤ 32) (h2 : 0 < fs.length) (hok : AllOk fs.length 0 (fs.map Prod.snd)) (n : Nat) (oc on : Int) (marks : List MarkV) (hm : (runP (fs.map Prod.snd)).st.marks = marks) (hn : marks.length = n) (hoc : ((noneV (runP (fs.map Prod.snd)).out).1 : Int) = oc) (hon : (noneV (runP (fs.map Prod.snd)).out).2 = on) :
    Calls Tryd.prog 13 #[.slice (some ⟨ob, 0, none⟩) fs.length fs.length] W (RunM W n oc on marks) := by
  refine (run_lit h0 hb ob fs h hi h1 h2 hok _ rfl).mono ?_
  intro e w' hE
  obtain ⟨A, c, k1, k2, k3⟩ := hE
  rw [hm, hoc, hon, hn] at k1
  rw [hm, hn] at k2
  exact ⟨A, c, k1, k2, k3⟩
theorem awake9_any {w0 w : World} (h0 : Lib0 w0) (hb : Below w0.heap.size w0 w) :
    Calls Tryd.prog 11 #[] w fun e w' => e = .returned (.bool true) ∧ Below w.heap.size w w' := by
  obtain ⟨Wa, hWa⟩ : ∃ W, (((w.alloc (.cells #[.int .u8 1, .int .i64 1, .int .u8 3, .int .i64 1, .int .u8 11, .int .i64 7, .int .u8 1, .int .i64 2] 24)).alloc (.cells #[.int .u8 5, .int .i64 0, .int .u8 1, .int .i64 3] 24)).alloc (.cells #[.slice (some ⟨w.heap.size, 0, none⟩) 4 4, .slice (some ⟨w.heap.size + 1, 0, none⟩) 2 2] 33)) = W := ⟨_, rfl⟩
  have qa0 : BlkL Wa (w.heap.size) [.int .u8 1, .int .i64 1, .int .u8 3, .int .i64 1, .int .u8 11, .int .i64 7, .int .u8 1, .int .i64 2] := by
    rw [← hWa]
    have := BlkL.new w [.int .u8 1, .int .i64 1, .int .u8 3, .int .i64 1, .int .u8 11, .int .i64 7, .int .u8 1, .int .i64 2] 24
    rw [show w.heap.size = w.heap.size by simp] at this
    exact ((this).alloc _).alloc _
  have qa1 : BlkL Wa (w.heap.size + 1) [.int .u8 5, .int .i64 0, .int .u8 1, .int .i64 3] := by
    rw [← hWa]
    have := BlkL.new (w.alloc (.cells #[.int .u8 1, .int .i64 1, .int .u8 3, .int .i64 1, .int .u8 11, .int .i64 7, .int .u8 1, .int .i64 2] 24)) [.int .u8 5, .int .i64 0, .int .u8 1, .int .i64 3] 24
    rw [show (w.alloc (.cells #[.int .u8 1, .int .i64 1, .int .u8 3, .int .i64 1, .int .u8 11, .int .i64 7, .int .u8 1, .int .i64 2] 24)).heap.size = w.heap.size + 1 by simp] at this
    exact (this).alloc _
  have qao : BlkL Wa (w.heap.size + 1 + 1) [.slice (some ⟨w.heap.size, 0, none⟩) 4 4, .slice (some ⟨w.heap.size + 1, 0, none⟩) 2 2] := by
    rw [← hWa]
    have := BlkL.new ((w.alloc (.cells #[.int .u8 1, .int .i64 1, .int .u8 3, .int .i64 1, .int .u8 11, .int .i64 7, .int .u8 1, .int .i64 2] 24)).alloc (.cells #[.int .u8 5, .int .i64 0, .int .u8 1, .int .i64 3] 24)) [.slice (some ⟨w.heap.size, 0, none⟩) 4 4, .slice (some ⟨w.heap.size + 1, 0, none⟩) 2 2] 33
    rw [show ((w.alloc (.cells #[.int .u8 1, .int .i64 1, .int .u8 3, .int .i64 1, .int .u8 11, .int .i64 7, .int .u8 1, .int .i64 2] 24)).alloc (.cells #[.int .u8 5, .int .i64 0, .int .u8 1, .int .i64 3] 24)).heap.size = w.heap.size + 1 + 1 by simp] at this
    exact this
  have bWa : Below w.heap.size w Wa := by
    rw [← hWa]
    exact ((((Below.refl w.heap.size w).alloc (by simp <;> omega) _).alloc (by simp <;> omega) _).alloc (by simp <;> omega) _)
  have HRa : Hid (Calls Tryd.prog 13 #[.slice (some ⟨w.heap.size + 1 + 1, 0, none⟩) 2 2] Wa (RunM Wa 3 0 0 [(1, 0, 1), (5, 11, 7), (1, 0, 3)])) := Lib.hid (run_litM h0 (hb.trans (bWa.mono (hb).size)) (w.heap.size + 1 + 1) [(w.heap.size, [(1, 1), (3, 1), (11, 7), (1, 2)]), (w.heap.size + 1, [(5, 0), (1, 3)])] qao (by
      intro q hq
      simp only [List.mem_cons, List.not_mem_nil, or_false] at hq
      rcases hq with rfl | rfl
      · exact qa0
      · exact qa1
      ) (by simp) (by simp) (by simp [AllOk, ActOk]) 3 0 0 [(1, 0, 1), (5, 11, 7), (1, 0, 3)] (by rfl) rfl (by rfl) (by rfl))
  have HWa := Lib.hid bWa
  have heq : ∀ w : World, (binOp BinOp.eql 26 (.agg #[.int .u8 0, .int .i64 0]) (.agg #[.int .u8 0, .int .i64 0])).run Tryd.prog w = .ok (.bool true) w := fun w => by kernel_rfl
  clear qa0 qa1 qao bWa hb
  go_enter Tryd.func11, Tryd.ntmps11
  go_wp2_with fail
  with_reducible refine HRa.out.mono ?_
  intro e w4 hE
  obtain ⟨A, c, rfl, ho, hb4⟩ := hE
  have HO := Lib.hid ho
  have HB4 := Lib.hid hb4
  clear ho hb4
  have b5 := (Below.refl w4.heap.size w4).alloc (Nat.le_refl _) (.cells #[.int .u8 0, .int .i64 0] 26)
  have b6 := b5.alloc (by simp) (.cells #[.int .u8 1, .int .u8 0, .int .i64 1, .int .u8 5, .int .u8 11, .int .i64 7, .int .u8 1, .int .u8 0, .int .i64 3] 73)
  have hbk := BlkL.new (w4.alloc (.cells #[.int .u8 0, .int .i64 0] 26)) [.int .u8 1, .int .u8 0, .int .i64 1, .int .u8 5, .int .u8 11, .int .i64 7, .int .u8 1, .int .u8 0, .int .i64 3] 73
  rw [show (w4.alloc (.cells #[.int .u8 0, .int .i64 0] 26)).heap.size = w4.heap.size + 1 by simp] at hbk
  have HS := Lib.hid (same9_any _ Wa.heap.size (w4.heap.size + 1) c 3 A [(1, 0, 1), (5, 11, 7), (1, 0, 3)] (HO.out.below b6) hbk (by simp))
  have hsz := HWa.out.size
  have hsz4 := HB4.out.size
  have HB6 : Hid (Below w.heap.size w ((w4.alloc (.cells #[.int .u8 0, .int .i64 0] 26)).alloc (.cells #[.int .u8 1, .int .u8 0, .int .i64 1, .int .u8 5, .int .u8 11, .int .i64 7, .int .u8 1, .int .u8 0, .int .i64 3] 73))) := Lib.hid ((HWa.out.trans (HB4.out.mono hsz)).trans (b6.mono (by omega)))
  clear b5 b6 hbk
  go_wp2_with fail
  refine HS.out.mono ?_
  rintro e w7 ⟨rfl, n, rfl⟩
  go_wp2
  go_ret
  exact ⟨rfl, below_drewN HB6.out n⟩
theorem results_raises (tmps : Array Value) (w : World) (b b2 : Nat) (x0 x1 y0 y1 : Value) (h4 : tmps[4]? = some (.pointer (some ⟨b, 0, none⟩))) (h5 : tmps[5]? = some (.pointer (some ⟨b2, 0, none⟩))) (hb : BlkL w b [x0, x1]) (hb2 : BlkL w b2 [y0, y1]) :
    (results Tryd.f12 tmps).run Tryd.prog w = .ok (.tuple #[.agg #[x0, x1], .agg #[y0, y1]]) w := by
  have z0 := hb.cell 0 _ rfl
  have z1 := hb.cell 1 _ rfl
  have u0 := hb2.cell 0 _ rfl
  have u1 := hb2.cell 1 _ rfl
  simp [results, Tryd.results12, go_sem, h4, h5, z0, z1, u0, u1]
theorem raises_any (w : World) (cl K : Nat) (n m : Int) (hcl : cl < 256) (hK : K = 11 + cl % 14) (hm : m = (endV K n).2) :
    Calls Tryd.prog 12 #[.int .u8 (cl : Int), .int .i64 n] w fun e w' => e = .returned (.tuple #[.agg #[.int .u8 (K : Int), .int .i64 n], .agg #[.int .u8 (K : Int), .int .i64 m]]) ∧ Below w.heap.size w w' := by
  have t1 : Int.tmod (cl : Int) 14 = ((cl % 14 : Nat) : Int) := by rw [Int.tmod_eq_emod_of_nonneg (by omega)]; omega
  obtain ⟨r, hr⟩ : ∃ r, cl % 14 = r := ⟨_, rfl⟩
  have hr14 : r < 14 := by omega
  rw [hr] at t1 hK
  have w1 : IntKind.u8.wrap (r : Int) = (r : Int) := by simp [IntKind.wrap, IntKind.bits, IntKind.signed]; omega
  have w2 : IntKind.u8.wrap (11 + (r : Int)) = (K : Int) := by simp [IntKind.wrap, IntKind.bits, IntKind.signed]; omega
  have hb0 := (BlkL.new w [.int .u8 0, .int .i64 0] 24)
  have h13 : (K : Int) ≤ 13 ∧ m = n ∨ ¬ (K : Int) ≤ 13 ∧ m = 0 := by
    rw [hm]
    unfold endV
    by_cases h : K ≤ 13
    · exact Or.inl ⟨by omega, by simp [h]⟩
    · exact Or.inr ⟨by omega, by simp [h]⟩
  clear hK hm hr hb0
  rcases h13 with ⟨c13, rfl⟩ | ⟨c13, rfl⟩
  · have hb2 := (BlkL.new (w.alloc (.cells #[.int .u8 (K : Int), .int .i64 m] 24)) [.int .u8 (K : Int), .int .i64 m] 26).alloc (.cells #[.int .u8 (K : Int), .int .i64 m] 24)
    rw [show (w.alloc (.cells #[.int .u8 (K : Int), .int .i64 m] 24)).heap.size = w.heap.size + 1 by simp] at hb2
    have HB1 := Lib.hid (((BlkL.new w [.int .u8 (K : Int), .int .i64 m] 24).alloc (.cells #[.int .u8 (K : Int), .int .i64 m] 26)).alloc (.cells #[.int .u8 (K : Int), .int .i64 m] 24))
    have HB2 := Lib.hid hb2
    have HBL := Lib.hid ((((Below.refl w.heap.size w).alloc (Nat.le_refl _) (.cells #[.int .u8 (K : Int), .int .i64 m] 24)).alloc (by simp) (.cells #[.int .u8 (K : Int), .int .i64 m] 26)).alloc (by simp <;> omega) (.cells #[.int .u8 (K : Int), .int .i64 m] 24))
    clear hb2
    go_enter Tryd.func12, Tryd.ntmps12
    go_wp2
    exact bodyPost_ret (v := .tuple #[.agg #[.int .u8 (K : Int), .int .i64 m], .agg #[.int .u8 (K : Int), .int .i64 m]]) (results_raises _ _ w.heap.size (w.heap.size + 1) _ _ _ _ rfl rfl HB1.out HB2.out) rfl ⟨rfl, HBL.out⟩
  · have hb2 := (BlkL.new (w.alloc (.cells #[.int .u8 (K : Int), .int .i64 n] 24)) [.int .u8 (K : Int), .int .i64 0] 26).alloc (.cells #[.int .u8 (K : Int), .int .i64 n] 24)
    rw [show (w.alloc (.cells #[.int .u8 (K : Int), .int .i64 n] 24)).heap.size = w.heap.size + 1 by simp] at hb2
    have HB1 := Lib.hid (((BlkL.new w [.int .u8 (K : Int), .int .i64 n] 24).alloc (.cells #[.int .u8 (K : Int), .int .i64 0] 26)).alloc (.cells #[.int .u8 (K : Int), .int .i64 n] 24))
    have HB2 := Lib.hid hb2
    have HBL := Lib.hid ((((Below.refl w.heap.size w).alloc (Nat.le_refl _) (.cells #[.int .u8 (K : Int), .int .i64 n] 24)).alloc (by simp) (.cells #[.int .u8 (K : Int), .int .i64 0] 26)).alloc (by simp <;> omega) (.cells #[.int .u8 (K : Int), .int .i64 n] 24))
    clear hb2
    go_enter Tryd.func12, Tryd.ntmps12
    go_wp2
    exact bodyPost_ret (v := .tuple #[.agg #[.int .u8 (K : Int), .int .i64 n], .agg #[.int .u8 (K : Int), .int .i64 0]]) (results_raises _ _ w.heap.size (w.heap.size + 1) _ _ _ _ rfl rfl HB1.out HB2.out) rfl ⟨rfl, HBL.out⟩
end Go.Proofs.YtifldnkcheobhaaDoor
