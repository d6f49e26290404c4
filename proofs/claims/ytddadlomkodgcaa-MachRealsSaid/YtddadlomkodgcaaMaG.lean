/- Contracts: swap of count. -/
import Derived.Test.YtddadlomkodgcaaMaF
import Derived.Deep.RegionWith
namespace Go.Proofs.Ytddadlomkodgcaa
open Go.RowKit
set_option maxRecDepth 100000
set_option linter.unusedVariables false

theorem swapK {w w5 : World} {c b bw limit v k : Nat} {calls : List CallV} (h : CntS w5 c b bw limit v k calls) (hk : k < 9223372036854775807) (i : Nat) (hi : i < 64) (old new : Nat) (ni : Int) (hni : ni = (new : Int)) (HF : Off [c, b, bw] w w5)
    {r a : Nat} {xs ys : List Value} (kr : BlkL w5 r xs) (ka : BlkL w5 a ys) (hr : r ∉ [c, b, bw]) (ha : a ∉ [c, b, bw]) (w' : World) (hf : Off [] w5 w') :
    Calls Try.prog 17 #[.pointer (some ⟨b, 0, none⟩), .int .i64 (i : Int), .int .i64 0, .int .u64 (old : Int), .int .u64 ni] w' fun e w2 => e = .returned (.tuple #[.bool (decide (v = old)), .int .i64 0]) ∧
      CntS w2 c b bw limit (if v = old then new else v) (k + 1) calls ∧ Off [c, b, bw] w w2 ∧ BlkL w2 r xs ∧ BlkL w2 a ys := by
  subst hni
  have h' := h.off hf (by simp) (by simp) (by simp)
  obtain ⟨rg, hm⟩ := h'.m
  refine (swap0 w' b bw v k 0 rg hm hk i old new (inB_iff.mpr (by omega))).mono ?_
  rintro e w2 ⟨h1, ⟨r2, hm2⟩, h3⟩
  have hne : c ∉ [b, bw] := by simp; exact ⟨h.ne, h.ne'⟩
  have o2 : Off [b, bw] w5 w2 := (hf.mono (by simp)).trans h3
  refine ⟨h1, h'.step h3 hne hm2, HF.trans (o2.mono (by simp)), kr.off o2 ?_, ka.off o2 ?_⟩
  · simp at hr ⊢; exact hr.2
  · simp at ha ⊢; exact ha.2
section
variable (w : World) (c b bw limit v k : Nat) (calls : List CallV)

set_option maxHeartbeats 3200000 in
theorem cswap_up (h : CntS w c b bw limit v k calls) (hk : k < 9223372036854775807) (hl : limit ≤ 4611686018427387903) (i : Nat) (hi : i < 64) (hx : calls.getD i noCall = ⟨1, true, v⟩) (hlv : v < limit) :
    Calls Try.prog 57 #[.pointer (some ⟨c, 0, none⟩), .int .i64 (i : Int)] w fun x w' => x = .returned (.tuple #[resV true 0 (v + 1 : Int), .int .i64 0]) ∧ CntS w' c b bw limit (v + 1) (k + 1) (calls.set i noCall) ∧ Off [c, b, bw] w w' := by
  have hcl := h.blk.lt
  obtain ⟨r9, hm9⟩ := h.m
  have hbl := hm9.blk.lt
  have hbwl := hm9.wd.lt
  clear hm9
  have d0 := h.op hi
  have d1 := h.ld hi
  have d2 := h.old hi
  rw [hx] at d0 d1 d2
  have c1 := h.c1
  have hnr3 : w.heap.size ∉ [c, b, bw] := by simp; omega
  have hna3 : w.heap.size + 1 ∉ [c, b, bw] := by simp; omega
  have hcr : c ≠ w.heap.size := by omega
  have hca : c ≠ w.heap.size + 1 := by omega
  have kr5 := ((BlkL.new w [.bool false, .int .i64 0, .int .i64 0] 71).alloc (.cells #[.int .u8 1, .bool true, .int .u64 (v : Int)] 125))
  have ka5 := BlkL.new (w.alloc (.cells #[.bool false, .int .i64 0, .int .i64 0] 71)) [.int .u8 1, .bool true, .int .u64 (v : Int)] 125
  simp only [World.size_alloc] at ka5
  have h5 := (h.alloc (.cells #[.bool false, .int .i64 0, .int .i64 0] 71)).alloc (.cells #[.int .u8 1, .bool true, .int .u64 (v : Int)] 125)
  have o5 := ((Off.refl [c, b, bw] w).alloc (.cells #[.bool false, .int .i64 0, .int .i64 0] 71)).alloc (.cells #[.int .u8 1, .bool true, .int .u64 (v : Int)] 125)
  have HS := Lib.hid (swapK h5 hk i hi v (v + 1) ((v : Int) + 1) (by omega) o5 kr5 ka5 hnr3 hna3)
  rw [if_pos rfl, decide_eq_true rfl] at HS
  have a0 := ka5.cell 0 _ rfl
  have a1 := ka5.cell 1 _ rfl
  have a2 := ka5.cell 2 _ rfl
  have al := ka5.lt
  have c5 := h5.c1
  have cl5 := h5.blk.lt
  clear h h5 o5 kr5 ka5
  go_enter Try.func57, Try.ntmps57
  go_wp2
  go_region_with (first | ((with_reducible refine (HS.out _ (Off.refl [] _).drew).mono ?_); rintro e w1 ⟨rfl, h1, HF1, k1, ka1⟩; have m0 := k1.cell 0 _ rfl; have m1 := k1.cell 1 _ rfl; have m2 := k1.cell 2 _ rfl; have g0 := k1.froz 0 (by simp); have g1 := k1.froz 1 (by simp); have g2 := k1.froz 2 (by simp); have p0 := ka1.cell 0 _ rfl; have p1 := ka1.cell 1 _ rfl; have p2 := ka1.cell 2 _ rfl))

  all_goals
    have HFI := Lib.hid (finish_any w1 c b bw limit (v + 1) (k + 1) calls h1 i hi true 0 (v + 1 : Int))
    have K1 := Lib.hid k1
    have O1 := Lib.hid HF1
    clear h1 k1 HF1 ka1
    clear a0 a1 a2 al
    go_wp2_with fail
    with_reducible refine HFI.out.mono ?_
    rintro e w2 ⟨rfl, hc2, hf2⟩
    have k2 := K1.out.off hf2 hnr3
    clear m0 m1 m2 g0 g1 g2 p0 p1 p2
    have m0 := k2.cell 0 _ rfl
    have m1 := k2.cell 1 _ rfl
    have m2 := k2.cell 2 _ rfl
    have g0 := k2.froz 0 (by simp)
    have g1 := k2.froz 1 (by simp)
    have g2 := k2.froz 2 (by simp)
    have hf3 := Lib.hid (O1.out.trans hf2)
    have HC2 := Lib.hid hc2
    have K2 := Lib.hid k2
    clear k2 hf2 hc2
    go_wp2
    have n0 := (K2.out.set 0 (.bool true) (by simp)).cell 0 _ rfl
    have n1 := ((K2.out.set 0 (.bool true) (by simp)).set 1 (.int .i64 0) (by simp)).cell 1 _ rfl
    have n2 := (((K2.out.set 0 (.bool true) (by simp)).set 1 (.int .i64 0) (by simp)).set 2 (.int .i64 (v + 1 : Int)) (by simp)).cell 2 _ rfl
    refine bodyPost_ret (v := .tuple #[resV true 0 (v + 1 : Int), .int .i64 0]) (by simp [results, Try.results57, go_sem, n0, n1, n2]) rfl ⟨rfl, HC2.out.res hnr3 _ _ _, hf3.out.res (Nat.le_refl _) _ _ _⟩

set_option maxHeartbeats 3200000 in
theorem cswap_down (h : CntS w c b bw limit v k calls) (hk : k < 9223372036854775807) (hl : limit ≤ 4611686018427387903) (i : Nat) (hi : i < 64) (hx : calls.getD i noCall = ⟨2, true, v⟩) (hlv : 0 < v) (hlv2 : v ≤ limit) :
    Calls Try.prog 57 #[.pointer (some ⟨c, 0, none⟩), .int .i64 (i : Int)] w fun x w' => x = .returned (.tuple #[resV true 0 (v - 1 : Int), .int .i64 0]) ∧ CntS w' c b bw limit (v - 1) (k + 1) (calls.set i noCall) ∧ Off [c, b, bw] w w' := by
  have hcl := h.blk.lt
  obtain ⟨r9, hm9⟩ := h.m
  have hbl := hm9.blk.lt
  have hbwl := hm9.wd.lt
  clear hm9
  have d0 := h.op hi
  have d1 := h.ld hi
  have d2 := h.old hi
  rw [hx] at d0 d1 d2
  have c1 := h.c1
  have hnr3 : w.heap.size ∉ [c, b, bw] := by simp; omega
  have hna3 : w.heap.size + 1 ∉ [c, b, bw] := by simp; omega
  have hcr : c ≠ w.heap.size := by omega
  have hca : c ≠ w.heap.size + 1 := by omega
  have q1 : ((v - 1 : Nat) : Int) = (v : Int) - 1 := by omega
  have kr5 := ((BlkL.new w [.bool false, .int .i64 0, .int .i64 0] 71).alloc (.cells #[.int .u8 2, .bool true, .int .u64 (v : Int)] 125))
  have ka5 := BlkL.new (w.alloc (.cells #[.bool false, .int .i64 0, .int .i64 0] 71)) [.int .u8 2, .bool true, .int .u64 (v : Int)] 125
  simp only [World.size_alloc] at ka5
  have h5 := (h.alloc (.cells #[.bool false, .int .i64 0, .int .i64 0] 71)).alloc (.cells #[.int .u8 2, .bool true, .int .u64 (v : Int)] 125)
  have o5 := ((Off.refl [c, b, bw] w).alloc (.cells #[.bool false, .int .i64 0, .int .i64 0] 71)).alloc (.cells #[.int .u8 2, .bool true, .int .u64 (v : Int)] 125)
  have HS := Lib.hid (swapK h5 hk i hi v (v - 1) ((v : Int) - 1) (by omega) o5 kr5 ka5 hnr3 hna3)
  rw [if_pos rfl, decide_eq_true rfl] at HS
  have a0 := ka5.cell 0 _ rfl
  have a1 := ka5.cell 1 _ rfl
  have a2 := ka5.cell 2 _ rfl
  have al := ka5.lt
  have c5 := h5.c1
  have cl5 := h5.blk.lt
  clear h h5 o5 kr5 ka5
  go_enter Try.func57, Try.ntmps57
  go_wp2
  go_region_with (first | ((with_reducible refine (HS.out _ (Off.refl [] _).drew).mono ?_); rintro e w1 ⟨rfl, h1, HF1, k1, ka1⟩; have m0 := k1.cell 0 _ rfl; have m1 := k1.cell 1 _ rfl; have m2 := k1.cell 2 _ rfl; have g0 := k1.froz 0 (by simp); have g1 := k1.froz 1 (by simp); have g2 := k1.froz 2 (by simp); have p0 := ka1.cell 0 _ rfl; have p1 := ka1.cell 1 _ rfl; have p2 := ka1.cell 2 _ rfl))

  all_goals
    have HFI := Lib.hid (finish_any w1 c b bw limit (v - 1) (k + 1) calls h1 i hi true 0 (v - 1 : Int))
    have K1 := Lib.hid k1
    have O1 := Lib.hid HF1
    clear h1 k1 HF1 ka1
    clear a0 a1 a2 al
    go_wp2_with fail
    with_reducible refine HFI.out.mono ?_
    rintro e w2 ⟨rfl, hc2, hf2⟩
    have k2 := K1.out.off hf2 hnr3
    clear m0 m1 m2 g0 g1 g2 p0 p1 p2
    have m0 := k2.cell 0 _ rfl
    have m1 := k2.cell 1 _ rfl
    have m2 := k2.cell 2 _ rfl
    have g0 := k2.froz 0 (by simp)
    have g1 := k2.froz 1 (by simp)
    have g2 := k2.froz 2 (by simp)
    have hf3 := Lib.hid (O1.out.trans hf2)
    have HC2 := Lib.hid hc2
    have K2 := Lib.hid k2
    clear k2 hf2 hc2
    go_wp2
    have n0 := (K2.out.set 0 (.bool true) (by simp)).cell 0 _ rfl
    have n1 := ((K2.out.set 0 (.bool true) (by simp)).set 1 (.int .i64 0) (by simp)).cell 1 _ rfl
    have n2 := (((K2.out.set 0 (.bool true) (by simp)).set 1 (.int .i64 0) (by simp)).set 2 (.int .i64 (v - 1 : Int)) (by simp)).cell 2 _ rfl
    refine bodyPost_ret (v := .tuple #[resV true 0 (v - 1 : Int), .int .i64 0]) (by simp [results, Try.results57, go_sem, n0, n1, n2]) rfl ⟨rfl, HC2.out.res hnr3 _ _ _, hf3.out.res (Nat.le_refl _) _ _ _⟩

end
end Go.Proofs.Ytddadlomkodgcaa
