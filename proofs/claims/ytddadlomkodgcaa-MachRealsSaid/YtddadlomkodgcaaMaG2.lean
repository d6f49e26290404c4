/- Contracts: swap of count, in vain. -/
import Derived.Test.YtddadlomkodgcaaMaG
namespace Go.Proofs.Ytddadlomkodgcaa
open Go.RowKit
set_option maxRecDepth 100000
set_option linter.unusedVariables false
section
variable (w : World) (c b bw limit v k : Nat) (calls : List CallV)
set_option maxHeartbeats 1600000 in
theorem cswap_up_no (h : CntS w c b bw limit v k calls) (hk : k < 9223372036854775807) (hl : limit ≤ 4611686018427387903) (i : Nat) (hi : i < 64) (old : Nat) (hx : calls.getD i noCall = ⟨1, true, old⟩) (hne : ¬ v = old) (ho : old < limit) :
    Calls Try.prog 57 #[.pointer (some ⟨c, 0, none⟩), .int .i64 (i : Int)] w fun x w' => x = .returned (.tuple #[resV false 0 0, .int .i64 0]) ∧ CntS w' c b bw limit (v) (k + 1) (calls.set i ⟨1, false, 0⟩) ∧ Off [c, b, bw] w w' := by
  have hcl := h.blk.lt
  obtain ⟨r9, hm9⟩ := h.m
  have hbl := hm9.blk.lt
  have hbwl := hm9.wd.lt
  clear hm9
  have d0 := h.op hi
  have d1 := h.ld hi
  have d2 := h.old hi
  rw [hx] at d0 d1 d2
  have c1 := h.c1
  have hnr3 : w.heap.size ∉ [c, b, bw] := by simp; omega
  have hna3 : w.heap.size + 1 ∉ [c, b, bw] := by simp; omega
  have hcr : c ≠ w.heap.size := by omega
  have hca : c ≠ w.heap.size + 1 := by omega
  have kr5 := ((BlkL.new w [.bool false, .int .i64 0, .int .i64 0] 71).alloc (.cells #[.int .u8 1, .bool true, .int .u64 (old : Int)] 125))
  have ka5 := BlkL.new (w.alloc (.cells #[.bool false, .int .i64 0, .int .i64 0] 71)) [.int .u8 1, .bool true, .int .u64 (old : Int)] 125
  simp only [World.size_alloc] at ka5
  have h5 := (h.alloc (.cells #[.bool false, .int .i64 0, .int .i64 0] 71)).alloc (.cells #[.int .u8 1, .bool true, .int .u64 (old : Int)] 125)
  have o5 := ((Off.refl [c, b, bw] w).alloc (.cells #[.bool false, .int .i64 0, .int .i64 0] 71)).alloc (.cells #[.int .u8 1, .bool true, .int .u64 (old : Int)] 125)
  have HS := Lib.hid (swapK h5 hk i hi old (old + 1) ((old : Int) + 1) (by omega) o5 kr5 ka5 hnr3 hna3)
  rw [if_neg hne, decide_eq_false hne] at HS
  have a0 := ka5.cell 0 _ rfl
  have a1 := ka5.cell 1 _ rfl
  have a2 := ka5.cell 2 _ rfl
  have al := ka5.lt
  have c5 := h5.c1
  have cl5 := h5.blk.lt
  clear h h5 o5 kr5 ka5
  go_enter Try.func57, Try.ntmps57
  go_wp2
  go_region_with (first | ((with_reducible refine (HS.out _ (Off.refl [] _).drew).mono ?_); rintro e w1 ⟨rfl, h1, HF1, k1, ka1⟩; have m0 := k1.cell 0 _ rfl; have m1 := k1.cell 1 _ rfl; have m2 := k1.cell 2 _ rfl; have g0 := k1.froz 0 (by simp); have g1 := k1.froz 1 (by simp); have g2 := k1.froz 2 (by simp); have p0 := ka1.cell 0 _ rfl; have p1 := ka1.cell 1 _ rfl; have p2 := ka1.cell 2 _ rfl))

  all_goals
    have e0 := h1.op hi
    have e1 := h1.ld hi
    have e2 := h1.old hi
    have hl1 := h1.blk.lt
    have f0 := h1.f (i := 2 + i * 3) (by omega)
    have f1 := h1.f (i := 2 + i * 3 + 1) (by omega)
    have f2 := h1.f (i := 2 + i * 3 + 2) (by omega)
    have HP : Hid (CntS (((w1.setCell ⟨c, 2 + i * 3, none⟩ (.int .u8 1)).setCell ⟨c, 2 + i * 3 + 1, none⟩ (.bool false)).setCell ⟨c, 2 + i * 3 + 2, none⟩ (.int .u64 0)) c b bw limit v (k + 1) (calls.set i ⟨1, false, 0⟩)) := Lib.hid (h1.put hi ⟨1, false, 0⟩)
    have HO := Lib.hid (CntS.put_off (w := w1) (c := c) (b := b) (bw := bw) i (.int .u8 1) (.bool false) (.int .u64 0))
    have K1 := Lib.hid k1
    have O1 := Lib.hid HF1
    clear h1 k1 HF1 ka1
    clear a0 a1 a2 al
    go_wp2
    go_region
    go_wp2
    have k2 := ((K1.out.other c (2 + i * 3) (.int .u8 1) hcr).other c (2 + i * 3 + 1) (.bool false) hcr).other c (2 + i * 3 + 2) (.int .u64 0) hcr
    have n0 := (k2.set 0 (.bool false) (by simp)).cell 0 _ rfl
    have n1 := ((k2.set 0 (.bool false) (by simp)).set 1 (.int .i64 0) (by simp)).cell 1 _ rfl
    have n2 := (((k2.set 0 (.bool false) (by simp)).set 1 (.int .i64 0) (by simp)).set 2 (.int .i64 0) (by simp)).cell 2 _ rfl
    have N0 := Lib.hid n0
    have N1 := Lib.hid n1
    have N2 := Lib.hid n2
    refine bodyPost_ret (v := .tuple #[resV false 0 0, .int .i64 0]) (by simp [results, Try.results57, go_sem, N0.out, N1.out, N2.out]) rfl ⟨rfl, ?_, ?_⟩
    · exact (HP.out.res hnr3 _ _ _).drew
    · exact ((O1.out.trans HO.out).res (Nat.le_refl _) _ _ _).drew

set_option maxHeartbeats 1600000 in
theorem cswap_down_no (h : CntS w c b bw limit v k calls) (hk : k < 9223372036854775807) (hl : limit ≤ 4611686018427387903) (i : Nat) (hi : i < 64) (old : Nat) (hx : calls.getD i noCall = ⟨2, true, old⟩) (hne : ¬ v = old) (ho : 0 < old) (ho2 : old ≤ limit) :
    Calls Try.prog 57 #[.pointer (some ⟨c, 0, none⟩), .int .i64 (i : Int)] w fun x w' => x = .returned (.tuple #[resV false 0 0, .int .i64 0]) ∧ CntS w' c b bw limit (v) (k + 1) (calls.set i ⟨2, false, 0⟩) ∧ Off [c, b, bw] w w' := by
  have hcl := h.blk.lt
  obtain ⟨r9, hm9⟩ := h.m
  have hbl := hm9.blk.lt
  have hbwl := hm9.wd.lt
  clear hm9
  have d0 := h.op hi
  have d1 := h.ld hi
  have d2 := h.old hi
  rw [hx] at d0 d1 d2
  have c1 := h.c1
  have hnr3 : w.heap.size ∉ [c, b, bw] := by simp; omega
  have hna3 : w.heap.size + 1 ∉ [c, b, bw] := by simp; omega
  have hcr : c ≠ w.heap.size := by omega
  have hca : c ≠ w.heap.size + 1 := by omega
  have q1 : ((old - 1 : Nat) : Int) = (old : Int) - 1 := by omega
  have kr5 := ((BlkL.new w [.bool false, .int .i64 0, .int .i64 0] 71).alloc (.cells #[.int .u8 2, .bool true, .int .u64 (old : Int)] 125))
  have ka5 := BlkL.new (w.alloc (.cells #[.bool false, .int .i64 0, .int .i64 0] 71)) [.int .u8 2, .bool true, .int .u64 (old : Int)] 125
  simp only [World.size_alloc] at ka5
  have h5 := (h.alloc (.cells #[.bool false, .int .i64 0, .int .i64 0] 71)).alloc (.cells #[.int .u8 2, .bool true, .int .u64 (old : Int)] 125)
  have o5 := ((Off.refl [c, b, bw] w).alloc (.cells #[.bool false, .int .i64 0, .int .i64 0] 71)).alloc (.cells #[.int .u8 2, .bool true, .int .u64 (old : Int)] 125)
  have HS := Lib.hid (swapK h5 hk i hi old (old - 1) ((old : Int) - 1) (by omega) o5 kr5 ka5 hnr3 hna3)
  rw [if_neg hne, decide_eq_false hne] at HS
  have a0 := ka5.cell 0 _ rfl
  have a1 := ka5.cell 1 _ rfl
  have a2 := ka5.cell 2 _ rfl
  have al := ka5.lt
  have c5 := h5.c1
  have cl5 := h5.blk.lt
  clear h h5 o5 kr5 ka5
  go_enter Try.func57, Try.ntmps57
  go_wp2
  go_region_with (first | ((with_reducible refine (HS.out _ (Off.refl [] _).drew).mono ?_); rintro e w1 ⟨rfl, h1, HF1, k1, ka1⟩; have m0 := k1.cell 0 _ rfl; have m1 := k1.cell 1 _ rfl; have m2 := k1.cell 2 _ rfl; have g0 := k1.froz 0 (by simp); have g1 := k1.froz 1 (by simp); have g2 := k1.froz 2 (by simp); have p0 := ka1.cell 0 _ rfl; have p1 := ka1.cell 1 _ rfl; have p2 := ka1.cell 2 _ rfl))

  all_goals
    have e0 := h1.op hi
    have e1 := h1.ld hi
    have e2 := h1.old hi
    have hl1 := h1.blk.lt
    have f0 := h1.f (i := 2 + i * 3) (by omega)
    have f1 := h1.f (i := 2 + i * 3 + 1) (by omega)
    have f2 := h1.f (i := 2 + i * 3 + 2) (by omega)
    have HP : Hid (CntS (((w1.setCell ⟨c, 2 + i * 3, none⟩ (.int .u8 2)).setCell ⟨c, 2 + i * 3 + 1, none⟩ (.bool false)).setCell ⟨c, 2 + i * 3 + 2, none⟩ (.int .u64 0)) c b bw limit v (k + 1) (calls.set i ⟨2, false, 0⟩)) := Lib.hid (h1.put hi ⟨2, false, 0⟩)
    have HO := Lib.hid (CntS.put_off (w := w1) (c := c) (b := b) (bw := bw) i (.int .u8 2) (.bool false) (.int .u64 0))
    have K1 := Lib.hid k1
    have O1 := Lib.hid HF1
    clear h1 k1 HF1 ka1
    clear a0 a1 a2 al
    go_wp2
    go_region
    go_wp2
    have k2 := ((K1.out.other c (2 + i * 3) (.int .u8 2) hcr).other c (2 + i * 3 + 1) (.bool false) hcr).other c (2 + i * 3 + 2) (.int .u64 0) hcr
    have n0 := (k2.set 0 (.bool false) (by simp)).cell 0 _ rfl
    have n1 := ((k2.set 0 (.bool false) (by simp)).set 1 (.int .i64 0) (by simp)).cell 1 _ rfl
    have n2 := (((k2.set 0 (.bool false) (by simp)).set 1 (.int .i64 0) (by simp)).set 2 (.int .i64 0) (by simp)).cell 2 _ rfl
    have N0 := Lib.hid n0
    have N1 := Lib.hid n1
    have N2 := Lib.hid n2
    refine bodyPost_ret (v := .tuple #[resV false 0 0, .int .i64 0]) (by simp [results, Try.results57, go_sem, N0.out, N1.out, N2.out]) rfl ⟨rfl, ?_, ?_⟩
    · exact (HP.out.res hnr3 _ _ _).drew
    · exact ((O1.out.trans HO.out).res (Nat.le_refl _) _ _ _).drew

end
end Go.Proofs.Ytddadlomkodgcaa
