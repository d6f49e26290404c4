/- Contracts of package gcra: decide, by its ways. -/
import Derived.Test.YtnkecjjfbllgdaaGcra
namespace Go.Proofs.Ytnkecjjfbllgdaa
open Go.RowKit
set_option maxRecDepth 100000

set_option maxHeartbeats 1600000 in
theorem gdecide_yes (w : World) (T Tau tat now n : Nat) (hT : 1 ≤ T) (hT2 : T ≤ 4611686018427387903) (hU : Tau ≤ 4611686018427387903) (h1 : tat ≤ 4611686018427387903) (h2 : now ≤ 4611686018427387903) (hg : grB T Tau tat now n = true) (hn : 0 < n) :
    Calls Try.prog 90 #[.agg #[.int .i64 (T : Int), .int .i64 (Tau : Int)], .int .i64 (tat : Int), .int .i64 (now : Int), .int .i64 (n : Int)] w (ValEnd w (decV T Tau tat now n)) := by
  have hm : (if tat < now then (now : Int) else (tat : Int)) = ((max tat now : Nat) : Int) := by split <;> omega
  have HL := Lib.hid (fun w => gleft_any w T Tau tat now hT hT2 hU h1 h2)
  have hd := hg
  unfold grB at hd
  have ht := tatV_le (n := n) (Tau := Tau) hT h1 h2
  have htv := tatV_pos hg hn
  have HL2 := Lib.hid (fun w => gleft_any w T Tau (tatV T Tau tat now n) now hT hT2 hU ht h2)
  have HV : Hid (decV T Tau tat now n = AnsV true (tatV T Tau tat now n) 0 (leftV T Tau (tatV T Tau tat now n) now)) := Lib.hid (by unfold decV wtV; rw [hg, if_pos rfl])
  generalize leftV T Tau (tatV T Tau tat now n) now = l2 at *
  generalize leftV T Tau tat now = l1 at *
  generalize max tat now = B at *
  generalize hr : n * T = r at *
  have e1 : (n : Int) * (T : Int) = (r : Int) := by rw [← hr]; push_cast; rfl
  generalize tatV T Tau tat now n = t2 at *
  have e2 : (B : Int) + (r : Int) = (t2 : Int) := by omega
  have b1 : (r : Int) ≤ 4611686018427387903 := by omega
  have b2 : (B : Int) ≤ 4611686018427387903 := by omega
  clear hr htv hg
  go_enter Try.func90, Try.ntmps90
  go_wp2_with fail
  refine (HL.out _).mono ?_
  rintro e w1 ⟨rfl, hb⟩
  have bl := ((BlkL.new w [.int .i64 (T : Int), .int .i64 (Tau : Int)] 50).alloc (.cells #[.bool false, .int .i64 0, .int .i64 0, .int .i64 0] 123)).alloc (.cells #[.bool false, .int .i64 (tat : Int), .int .i64 0, .int .i64 0] 123) |>.below hb
  have br := (BlkL.new (w.alloc (.cells #[.int .i64 (T : Int), .int .i64 (Tau : Int)] 50)) [.bool false, .int .i64 0, .int .i64 0, .int .i64 0] 123).alloc (.cells #[.bool false, .int .i64 (tat : Int), .int .i64 0, .int .i64 0] 123) |>.below hb
  have ba := (BlkL.new ((w.alloc (.cells #[.int .i64 (T : Int), .int .i64 (Tau : Int)] 50)).alloc (.cells #[.bool false, .int .i64 0, .int .i64 0, .int .i64 0] 123)) [.bool false, .int .i64 (tat : Int), .int .i64 0, .int .i64 0] 123).below hb
  simp only [World.size_alloc] at bl br ba
  have HB1 := Lib.hid ((((Below.refl w.heap.size w).alloc (Nat.le_refl _) _).alloc (by simp) _).alloc (by simp; omega) _ |>.trans (hb.mono (by simp; omega)))
  clear hb
  have c0 := bl.cell 0 _ rfl
  have c1 := bl.cell 1 _ rfl
  have a0 := ba.cell 0 _ rfl
  have a1 := ba.cell 1 _ rfl
  have a2 := ba.cell 2 _ rfl
  have a3 := ba.cell 3 _ rfl
  have f0 := ba.froz 0 (by simp)
  have f1 := ba.froz 1 (by simp)
  have f2 := ba.froz 2 (by simp)
  have f3 := ba.froz 3 (by simp)
  have HL0 := Lib.hid bl
  have HR0 := Lib.hid br
  have HA0 := Lib.hid ba
  clear bl br ba
  go_wp2_with fail
  refine (HL2.out _).mono ?_
  rintro e w2 ⟨rfl, hb⟩
  have bl := ((HL0.out.other _ 0 (.bool true) (by omega)).other _ 1 (.int .i64 (t2 : Int)) (by omega)).below hb
  have br := ((HR0.out.other _ 0 (.bool true) (by omega)).other _ 1 (.int .i64 (t2 : Int)) (by omega)).below hb
  have ba := ((HA0.out.set 0 (.bool true) (by simp)).set 1 (.int .i64 (t2 : Int)) (by simp)).below hb
  simp only [List.set_cons_zero, List.set_cons_succ] at ba
  have HB2 := Lib.hid (((HB1.out.setCell (by show w.heap.size ≤ w.heap.size + 1 + 1; omega) (.bool true)).setCell (by show w.heap.size ≤ w.heap.size + 1 + 1; omega) (.int .i64 (t2 : Int))).trans (hb.mono (by have := HB1.out.size; simpa using this)))
  clear hb
  clear c0 c1 a0 a1 a2 a3 f0 f1 f2 f3
  have c0 := bl.cell 0 _ rfl
  have c1 := bl.cell 1 _ rfl
  have a0 := ba.cell 0 _ rfl
  have a1 := ba.cell 1 _ rfl
  have a2 := ba.cell 2 _ rfl
  have a3 := ba.cell 3 _ rfl
  have f0 := ba.froz 0 (by simp)
  have f1 := ba.froz 1 (by simp)
  have f2 := ba.froz 2 (by simp)
  have f3 := ba.froz 3 (by simp)
  have r0 := br.cell 0 _ rfl
  have r1 := br.cell 1 _ rfl
  have r2 := br.cell 2 _ rfl
  have r3 := br.cell 3 _ rfl
  have g0 := br.froz 0 (by simp)
  have g1 := br.froz 1 (by simp)
  have g2 := br.froz 2 (by simp)
  have g3 := br.froz 3 (by simp)
  have HL1 := Lib.hid bl
  have HR1 := Lib.hid br
  have HA1 := Lib.hid ba
  clear bl br ba
  go_wp2
  have bz := (((((HR1.out.other (w.heap.size + 1 + 1) 3 (.int .i64 (l2 : Int)) (by omega)).set 0 (.bool true) (by simp)).set 1 (.int .i64 (t2 : Int)) (by simp)).set 2 (.int .i64 0) (by simp)).set 3 (.int .i64 (l2 : Int)) (by simp))
  simp only [List.set_cons_zero, List.set_cons_succ] at bz
  have z0 := bz.cell 0 _ rfl
  have z1 := bz.cell 1 _ rfl
  have z2 := bz.cell 2 _ rfl
  have z3 := bz.cell 3 _ rfl
  have hbz := (((((HB2.out.setCell (p := ⟨w.heap.size + 1 + 1, 3, none⟩) (by show w.heap.size ≤ w.heap.size + 1 + 1; omega) (.int .i64 (l2 : Int))).setCell (p := ⟨w.heap.size + 1, 0, none⟩) (by show w.heap.size ≤ w.heap.size + 1; omega) (.bool true)).setCell (p := ⟨w.heap.size + 1, 1, none⟩) (by show w.heap.size ≤ w.heap.size + 1; omega) (.int .i64 (t2 : Int))).setCell (p := ⟨w.heap.size + 1, 2, none⟩) (by show w.heap.size ≤ w.heap.size + 1; omega) (.int .i64 0)).setCell (p := ⟨w.heap.size + 1, 3, none⟩) (by show w.heap.size ≤ w.heap.size + 1; omega) (.int .i64 (l2 : Int)))
  clear bz c0 c1 a0 a1 a2 a3 f0 f1 f2 f3 r0 r1 r2 r3 g0 g1 g2 g3
  exact bodyPost_ret (v := .agg #[(.bool true), (.int .i64 (t2 : Int)), (.int .i64 0), (.int .i64 (l2 : Int))]) (by simp [results, Try.results90, go_sem, z0, z1, z2, z3]) rfl ⟨by rw [HV.out]; rfl, hbz⟩


set_option maxHeartbeats 1600000 in
theorem gdecide_zero (w : World) (T Tau tat now n : Nat) (hT : 1 ≤ T) (hT2 : T ≤ 4611686018427387903) (hU : Tau ≤ 4611686018427387903) (h1 : tat ≤ 4611686018427387903) (h2 : now ≤ 4611686018427387903) (hg : grB T Tau tat now n = true) (hn : n = 0) :
    Calls Try.prog 90 #[.agg #[.int .i64 (T : Int), .int .i64 (Tau : Int)], .int .i64 (tat : Int), .int .i64 (now : Int), .int .i64 (n : Int)] w (ValEnd w (decV T Tau tat now n)) := by
  have HL := Lib.hid (fun w => gleft_any w T Tau tat now hT hT2 hU h1 h2)
  have hd := hg
  unfold grB at hd
  have HV : Hid (decV T Tau tat now n = AnsV true tat 0 (leftV T Tau tat now)) := Lib.hid (by unfold decV wtV; rw [hg, if_pos rfl, hn, tatV_zero])
  generalize leftV T Tau tat now = l2 at *
  have hn' : decide (0 < n) = false := by rw [hn]; rfl
  have hnz : ¬ 0 < n := by omega
  clear hg hn
  go_enter Try.func90, Try.ntmps90
  go_wp2_with fail
  refine (HL.out _).mono ?_
  rintro e w1 ⟨rfl, hb⟩
  have bl := ((BlkL.new w [.int .i64 (T : Int), .int .i64 (Tau : Int)] 50).alloc (.cells #[.bool false, .int .i64 0, .int .i64 0, .int .i64 0] 123)).alloc (.cells #[.bool false, .int .i64 (tat : Int), .int .i64 0, .int .i64 0] 123) |>.below hb
  have br := (BlkL.new (w.alloc (.cells #[.int .i64 (T : Int), .int .i64 (Tau : Int)] 50)) [.bool false, .int .i64 0, .int .i64 0, .int .i64 0] 123).alloc (.cells #[.bool false, .int .i64 (tat : Int), .int .i64 0, .int .i64 0] 123) |>.below hb
  have ba := (BlkL.new ((w.alloc (.cells #[.int .i64 (T : Int), .int .i64 (Tau : Int)] 50)).alloc (.cells #[.bool false, .int .i64 0, .int .i64 0, .int .i64 0] 123)) [.bool false, .int .i64 (tat : Int), .int .i64 0, .int .i64 0] 123).below hb
  simp only [World.size_alloc] at bl br ba
  have HB1 := Lib.hid ((((Below.refl w.heap.size w).alloc (Nat.le_refl _) _).alloc (by simp) _).alloc (by simp; omega) _ |>.trans (hb.mono (by simp; omega)))
  clear hb
  have c0 := bl.cell 0 _ rfl
  have c1 := bl.cell 1 _ rfl
  have a0 := ba.cell 0 _ rfl
  have a1 := ba.cell 1 _ rfl
  have a2 := ba.cell 2 _ rfl
  have a3 := ba.cell 3 _ rfl
  have f0 := ba.froz 0 (by simp)
  have f1 := ba.froz 1 (by simp)
  have f2 := ba.froz 2 (by simp)
  have f3 := ba.froz 3 (by simp)
  have HL0 := Lib.hid bl
  have HR0 := Lib.hid br
  have HA0 := Lib.hid ba
  clear bl br ba
  go_wp2_with fail
  refine (HL.out _).mono ?_
  rintro e w2 ⟨rfl, hb⟩
  have bl := (HL0.out.other _ 0 (.bool true) (by omega)).below hb
  have br := (HR0.out.other _ 0 (.bool true) (by omega)).below hb
  have ba := (HA0.out.set 0 (.bool true) (by simp)).below hb
  simp only [List.set_cons_zero] at ba
  have HB2 := Lib.hid ((HB1.out.setCell (by show w.heap.size ≤ w.heap.size + 1 + 1; omega) (.bool true)).trans (hb.mono (by have := HB1.out.size; simpa using this)))
  clear hb
  clear c0 c1 a0 a1 a2 a3 f0 f1 f2 f3
  have c0 := bl.cell 0 _ rfl
  have c1 := bl.cell 1 _ rfl
  have a0 := ba.cell 0 _ rfl
  have a1 := ba.cell 1 _ rfl
  have a2 := ba.cell 2 _ rfl
  have a3 := ba.cell 3 _ rfl
  have f0 := ba.froz 0 (by simp)
  have f1 := ba.froz 1 (by simp)
  have f2 := ba.froz 2 (by simp)
  have f3 := ba.froz 3 (by simp)
  have r0 := br.cell 0 _ rfl
  have r1 := br.cell 1 _ rfl
  have r2 := br.cell 2 _ rfl
  have r3 := br.cell 3 _ rfl
  have g0 := br.froz 0 (by simp)
  have g1 := br.froz 1 (by simp)
  have g2 := br.froz 2 (by simp)
  have g3 := br.froz 3 (by simp)
  have HL1 := Lib.hid bl
  have HR1 := Lib.hid br
  have HA1 := Lib.hid ba
  clear bl br ba
  go_wp2
  have bz := (((((HR1.out.other (w.heap.size + 1 + 1) 3 (.int .i64 (l2 : Int)) (by omega)).set 0 (.bool true) (by simp)).set 1 (.int .i64 (tat : Int)) (by simp)).set 2 (.int .i64 0) (by simp)).set 3 (.int .i64 (l2 : Int)) (by simp))
  simp only [List.set_cons_zero, List.set_cons_succ] at bz
  have z0 := bz.cell 0 _ rfl
  have z1 := bz.cell 1 _ rfl
  have z2 := bz.cell 2 _ rfl
  have z3 := bz.cell 3 _ rfl
  have hbz := (((((HB2.out.setCell (p := ⟨w.heap.size + 1 + 1, 3, none⟩) (by show w.heap.size ≤ w.heap.size + 1 + 1; omega) (.int .i64 (l2 : Int))).setCell (p := ⟨w.heap.size + 1, 0, none⟩) (by show w.heap.size ≤ w.heap.size + 1; omega) (.bool true)).setCell (p := ⟨w.heap.size + 1, 1, none⟩) (by show w.heap.size ≤ w.heap.size + 1; omega) (.int .i64 (tat : Int))).setCell (p := ⟨w.heap.size + 1, 2, none⟩) (by show w.heap.size ≤ w.heap.size + 1; omega) (.int .i64 0)).setCell (p := ⟨w.heap.size + 1, 3, none⟩) (by show w.heap.size ≤ w.heap.size + 1; omega) (.int .i64 (l2 : Int)))
  clear bz c0 c1 a0 a1 a2 a3 f0 f1 f2 f3 r0 r1 r2 r3 g0 g1 g2 g3
  exact bodyPost_ret (v := .agg #[(.bool true), (.int .i64 (tat : Int)), (.int .i64 0), (.int .i64 (l2 : Int))]) (by simp [results, Try.results90, go_sem, z0, z1, z2, z3]) rfl ⟨by rw [HV.out]; rfl, hbz⟩


set_option maxHeartbeats 1600000 in
theorem gdecide_no (w : World) (T Tau tat now n : Nat) (hT : 1 ≤ T) (hT2 : T ≤ 4611686018427387903) (hU : Tau ≤ 4611686018427387903) (h1 : tat ≤ 4611686018427387903) (h2 : now ≤ 4611686018427387903) (h3 : n ≤ 4611686018427387903) (hg : grB T Tau tat now n = false) :
    Calls Try.prog 90 #[.agg #[.int .i64 (T : Int), .int .i64 (Tau : Int)], .int .i64 (tat : Int), .int .i64 (now : Int), .int .i64 (n : Int)] w (ValEnd w (decV T Tau tat now n)) := by
  have HL := Lib.hid (fun w => gleft_any w T Tau tat now hT hT2 hU h1 h2)
  have HW := Lib.hid (fun w => gwait_any w T Tau tat now n hT hT2 hU h1 h2 h3 hg)
  have hd := hg
  unfold grB at hd
  have HV : Hid (decV T Tau tat now n = AnsV false tat (waitV T Tau tat now n) (leftV T Tau tat now)) := Lib.hid (by unfold decV wtV; rw [tatV_no hg, hg]; rfl)
  generalize leftV T Tau tat now = l2 at *
  generalize waitV T Tau tat now n = x at *
  clear hg
  go_enter Try.func90, Try.ntmps90
  go_wp2_with fail
  refine (HL.out _).mono ?_
  rintro e w1 ⟨rfl, hb⟩
  have bl := ((BlkL.new w [.int .i64 (T : Int), .int .i64 (Tau : Int)] 50).alloc (.cells #[.bool false, .int .i64 0, .int .i64 0, .int .i64 0] 123)).alloc (.cells #[.bool false, .int .i64 (tat : Int), .int .i64 0, .int .i64 0] 123) |>.below hb
  have br := (BlkL.new (w.alloc (.cells #[.int .i64 (T : Int), .int .i64 (Tau : Int)] 50)) [.bool false, .int .i64 0, .int .i64 0, .int .i64 0] 123).alloc (.cells #[.bool false, .int .i64 (tat : Int), .int .i64 0, .int .i64 0] 123) |>.below hb
  have ba := (BlkL.new ((w.alloc (.cells #[.int .i64 (T : Int), .int .i64 (Tau : Int)] 50)).alloc (.cells #[.bool false, .int .i64 0, .int .i64 0, .int .i64 0] 123)) [.bool false, .int .i64 (tat : Int), .int .i64 0, .int .i64 0] 123).below hb
  simp only [World.size_alloc] at bl br ba
  have HB1 := Lib.hid ((((Below.refl w.heap.size w).alloc (Nat.le_refl _) _).alloc (by simp) _).alloc (by simp; omega) _ |>.trans (hb.mono (by simp; omega)))
  clear hb
  have c0 := bl.cell 0 _ rfl
  have c1 := bl.cell 1 _ rfl
  have a0 := ba.cell 0 _ rfl
  have a1 := ba.cell 1 _ rfl
  have a2 := ba.cell 2 _ rfl
  have a3 := ba.cell 3 _ rfl
  have f0 := ba.froz 0 (by simp)
  have f1 := ba.froz 1 (by simp)
  have f2 := ba.froz 2 (by simp)
  have f3 := ba.froz 3 (by simp)
  have HL0 := Lib.hid bl
  have HR0 := Lib.hid br
  have HA0 := Lib.hid ba
  clear bl br ba
  go_wp2_with fail
  refine (HW.out _).mono ?_
  rintro e w2 ⟨rfl, hb⟩
  have bl := (HL0.out.other _ 0 (.bool false) (by omega)).below hb
  have br := (HR0.out.other _ 0 (.bool false) (by omega)).below hb
  have ba := (HA0.out.set 0 (.bool false) (by simp)).below hb
  simp only [List.set_cons_zero] at ba
  have HB2 := Lib.hid ((HB1.out.setCell (by show w.heap.size ≤ w.heap.size + 1 + 1; omega) (.bool false)).trans (hb.mono (by have := HB1.out.size; simpa using this)))
  clear hb
  clear c0 c1 a0 a1 a2 a3 f0 f1 f2 f3
  have c0 := bl.cell 0 _ rfl
  have c1 := bl.cell 1 _ rfl
  have a0 := ba.cell 0 _ rfl
  have a1 := ba.cell 1 _ rfl
  have a2 := ba.cell 2 _ rfl
  have a3 := ba.cell 3 _ rfl
  have f0 := ba.froz 0 (by simp)
  have f1 := ba.froz 1 (by simp)
  have f2 := ba.froz 2 (by simp)
  have f3 := ba.froz 3 (by simp)
  have HL1 := Lib.hid bl
  have HR1 := Lib.hid br
  have HA1 := Lib.hid ba
  clear bl br ba
  go_wp2_with fail
  refine (HL.out _).mono ?_
  rintro e w3 ⟨rfl, hb⟩
  have bl := (HL1.out.other _ 2 (.int .i64 (x : Int)) (by omega)).below hb
  have br := (HR1.out.other _ 2 (.int .i64 (x : Int)) (by omega)).below hb
  have ba := (HA1.out.set 2 (.int .i64 (x : Int)) (by simp)).below hb
  simp only [List.set_cons_zero, List.set_cons_succ] at ba
  have HB3 := Lib.hid ((HB2.out.setCell (by show w.heap.size ≤ w.heap.size + 1 + 1; omega) (.int .i64 (x : Int))).trans (hb.mono (by have := HB2.out.size; simpa using this)))
  clear hb
  clear c0 c1 a0 a1 a2 a3 f0 f1 f2 f3
  have c0 := bl.cell 0 _ rfl
  have c1 := bl.cell 1 _ rfl
  have a0 := ba.cell 0 _ rfl
  have a1 := ba.cell 1 _ rfl
  have a2 := ba.cell 2 _ rfl
  have a3 := ba.cell 3 _ rfl
  have f0 := ba.froz 0 (by simp)
  have f1 := ba.froz 1 (by simp)
  have f2 := ba.froz 2 (by simp)
  have f3 := ba.froz 3 (by simp)
  have r0 := br.cell 0 _ rfl
  have r1 := br.cell 1 _ rfl
  have r2 := br.cell 2 _ rfl
  have r3 := br.cell 3 _ rfl
  have g0 := br.froz 0 (by simp)
  have g1 := br.froz 1 (by simp)
  have g2 := br.froz 2 (by simp)
  have g3 := br.froz 3 (by simp)
  have HL2 := Lib.hid bl
  have HR2 := Lib.hid br
  have HA2 := Lib.hid ba
  clear bl br ba
  go_wp2
  have bz := (((((HR2.out.other (w.heap.size + 1 + 1) 3 (.int .i64 (l2 : Int)) (by omega)).set 0 (.bool false) (by simp)).set 1 (.int .i64 (tat : Int)) (by simp)).set 2 (.int .i64 (x : Int)) (by simp)).set 3 (.int .i64 (l2 : Int)) (by simp))
  simp only [List.set_cons_zero, List.set_cons_succ] at bz
  have z0 := bz.cell 0 _ rfl
  have z1 := bz.cell 1 _ rfl
  have z2 := bz.cell 2 _ rfl
  have z3 := bz.cell 3 _ rfl
  have hbz := (((((HB3.out.setCell (p := ⟨w.heap.size + 1 + 1, 3, none⟩) (by show w.heap.size ≤ w.heap.size + 1 + 1; omega) (.int .i64 (l2 : Int))).setCell (p := ⟨w.heap.size + 1, 0, none⟩) (by show w.heap.size ≤ w.heap.size + 1; omega) (.bool false)).setCell (p := ⟨w.heap.size + 1, 1, none⟩) (by show w.heap.size ≤ w.heap.size + 1; omega) (.int .i64 (tat : Int))).setCell (p := ⟨w.heap.size + 1, 2, none⟩) (by show w.heap.size ≤ w.heap.size + 1; omega) (.int .i64 (x : Int))).setCell (p := ⟨w.heap.size + 1, 3, none⟩) (by show w.heap.size ≤ w.heap.size + 1; omega) (.int .i64 (l2 : Int)))
  clear bz c0 c1 a0 a1 a2 a3 f0 f1 f2 f3 r0 r1 r2 r3 g0 g1 g2 g3
  exact bodyPost_ret (v := .agg #[(.bool false), (.int .i64 (tat : Int)), (.int .i64 (x : Int)), (.int .i64 (l2 : Int))]) (by simp [results, Try.results90, go_sem, z0, z1, z2, z3]) rfl ⟨by rw [HV.out], hbz⟩


theorem gdecide_any (w : World) (T Tau tat now n : Nat) (hT : 1 ≤ T) (hT2 : T ≤ 4611686018427387903) (hU : Tau ≤ 4611686018427387903) (h1 : tat ≤ 4611686018427387903) (h2 : now ≤ 4611686018427387903) (h3 : n ≤ 4611686018427387903) :
    Calls Try.prog 90 #[.agg #[.int .i64 (T : Int), .int .i64 (Tau : Int)], .int .i64 (tat : Int), .int .i64 (now : Int), .int .i64 (n : Int)] w (ValEnd w (decV T Tau tat now n)) := by
  rcases hg : grB T Tau tat now n with _ | _
  · exact gdecide_no w T Tau tat now n hT hT2 hU h1 h2 h3 hg
  · rcases Nat.eq_zero_or_pos n with hn | hn
    · exact gdecide_zero w T Tau tat now n hT hT2 hU h1 h2 hg hn
    · exact gdecide_yes w T Tau tat now n hT hT2 hU h1 h2 hg hn
end Go.Proofs.Ytnkecjjfbllgdaa
